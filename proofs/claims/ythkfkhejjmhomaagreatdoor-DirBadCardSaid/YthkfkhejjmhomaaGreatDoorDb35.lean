/- The code's edit: enough, of any node; plain facts of an exchange -/
import Derived.Test.YthkfkhejjmhomaaGreatDoorHaT
namespace Go.Proofs.YthkfkhejjmhomaaGreatDoor
open Go Go.RowKit Go.Proofs
set_option maxHeartbeats 8000000
set_option maxRecDepth 100000
section
variable {b:Nat}{w:World}{d p:Nat}{S0 S T:Nat->Prop}{D:DM}{P P':Pl}
theorem qq7 (H:Qg b w d p S0 S T D P)(hb:1<b)(ht:Tab w)(hP:P.tidy)(s:Qs)(A:Option Addr)(n c:Nat)(B:Option Addr)(m dd:Nat)(hs:Jf (Turn S w) s.N A n c B m dd)(N:Nd)(J:Option Addr)(X c2:Nat)(M:Option Addr)(U Q:Nat)(hB:Jf (Turn S w) N J X c2 M U Q)(above:Qs)(A3:Option Addr)(n3 c3:Nat)(B3:Option Addr)(m3 d3:Nat)(hA:P5 (Turn S w) B3 m3 d3 above.N.kids)(hl:1<=above.N.lvl/\above.N.lvl<8)(I:above.next<=60)(a1:N.size<=20){x:O9}(F:P.have_ D s N above=some (x,P')) :
  Calls Tryz.prog 190 #[tv p,Vf s A n c B m dd,Xw N.lvl J X c2 M U Q,Vf above A3 n3 c3 B3 m3 d3] w λe E=>∃K Z c5 O W R Y k,e=.returned (.tuple #[.agg (Xe x.N.lvl K Z c5 O W R Y k k (x.i:Int) (x.j:Int)).toArray,.int .i64 0])/\Jf (Turn S E) x.N K Z c5 O W R/\(∀u,Turn S E u->Ve (Turn S E) u Y k k x.olds)/\k<=2/\Qg b E d p S0 S T D P'/\Turn S w E/\Tab E:=by
 unfold Pl.have_ at F;by_cases f:Qp N.lvl<=N.size
 ·rw[if_pos f] at F;injection Option.some.inj F with e1 e2;subst e1 e2;refine (qmd H ht s A n c B m dd hs N J X c2 M U Q hB above A3 n3 c3 B3 m3 d3 I f).mono ?_;rintro e E ⟨Y,rfl,h1,h2,G⟩;exact⟨J,X,c2,M,U,Q,Y,1,rfl,h1,h2,by omega,H.below G,Qx G,ht.below G ht.1⟩
 ·rw[if_neg f] at F;by_cases h0:0<above.next
  ·rw[if_pos h0] at F;obtain⟨P2,y,e⟩:=Option.map_eq_some_iff.1 F;injection e with e1 e2;subst e1 e2;unfold Pl.near at y;split at y
   ·rename_i hk;refine (qn9 H hb ht hP s A n c B m dd hs N J X c2 M U Q hB above A3 n3 c3 B3 m3 d3 hA hl I f a1 h0 hk y).mono ?_;rintro e E ⟨K,Z,c5,O,W,R,Y,rfl,h1,h2,G,h4,h5⟩;exact⟨K,Z,c5,O,W,R,Y,2,rfl,h1,h2,by omega,G,h4,h5⟩
   ·cases y
  ·rw[if_neg h0] at F;obtain⟨P2,y,e⟩:=Option.map_eq_some_iff.1 F;injection e with e1 e2;subst e1 e2;unfold Pl.near at y;split at y
   ·rename_i hk;refine (qna H hb ht hP s A n c B m dd hs N J X c2 M U Q hB above A3 n3 c3 B3 m3 d3 hA hl I f a1 h0 hk y).mono ?_;rintro e E ⟨K,Z,c5,O,W,R,Y,rfl,h1,h2,G,h4,h5⟩;exact⟨K,Z,c5,O,W,R,Y,2,rfl,h1,h2,by omega,G,h4,h5⟩
   ·cases y
theorem qq8 {s above:Qs}{N:Nd}{x:O9}(h:P.tidy)(m:P.have_ D s N above=some (x,P')):P'.tidy:=by
 have near:∀{i:Nat} {u:Pl},P.near D above i=some u->u.tidy:=λ{i u} f=>by
  unfold Pl.near at f;split at f
  ·exact h.Q8 f
  ·cases f
 unfold Pl.have_ at m;split at m
 ·injection Option.some.inj m with A y;subst y;exact h
 ·split at m
  ·obtain⟨u,f,e⟩:=Option.map_eq_some_iff.1 m;injection e with A y;subst y;exact near f
  ·obtain⟨u,f,e⟩:=Option.map_eq_some_iff.1 m;injection e with A y;subst y;exact near f
end
def Vq:Qs->List Qs->Prop
 |_,[]=>True
 |s,t::way=>t.N.fit/\t.N.size<=12/\t.N.lvl=s.N.lvl+1/\t.N.lvl<8/\t.next+1<=t.N.size/\Vq t way
theorem qq9 {N:Nd}(h:N.fit){i j:Nat}(e:i<=j):(N.cut 0 i).size+(N.cut j N.size).size<=N.size:=by
 obtain⟨h1,h2⟩:=h;unfold Nd.cut;by_cases h0:N.lvl=0
 ·rw[if_pos h0,if_pos h0];unfold Nd.size;simp only[h1 h0,List.length_nil,List.length_take,List.length_drop];omega
 ·rw[if_neg h0,if_neg h0];unfold Nd.size;simp only[h2 h0,List.length_nil,List.length_take,List.length_drop];omega
theorem qdy {l:Int}{N M:Nd}(h:N.fit)(hm:M.fit)(m:N.lvl=l)(f:M.lvl=l):(⟨l,N.items++M.items,N.kids++M.kids⟩:Nd).fit:=by
 refine⟨λh0=>?_,λh0=>?_⟩
 ·have h0:l=0:=h0;show N.kids++M.kids=[];rw[h.1 (m.trans h0),hm.1 (f.trans h0)];rfl
 ·have h0:¬l=0:=h0;show N.items++M.items=[];rw[h.2 (λe=>h0 (m.symm.trans e)),hm.2 (λe=>h0 (f.symm.trans e))];rfl
theorem q90 {l:Int}{N M:Nd}:Zw l [N,M]=⟨l,N.items++M.items,N.kids++M.kids⟩:=by unfold Zw;simp
theorem qqa (N:Nd)(i j:Nat):(N.cut i j).lvl=N.lvl:=by unfold Nd.cut;split<;>rfl
theorem qxr {s:Qs}{f:Nd}{i j:Nat}(h:s.N.fit)(A:f.fit)(B:f.lvl=s.N.lvl)(m:i<=j):(Xt s i j f).fit/\(Xt s i j f).lvl=s.N.lvl/\(Xt s i j f).size<=s.N.size+f.size:=by
 have h1:=qq9 h m;have u:=q7j h 0 i;have y:=q7j h j s.N.size;have E:=qqa s.N 0 i;have F:=qqa s.N j s.N.size;have e:Xt s i j f=⟨s.N.lvl,(s.N.cut 0 i).items++(f.items++(s.N.cut j s.N.size).items),(s.N.cut 0 i).kids++(f.kids++(s.N.cut j s.N.size).kids)⟩:=by unfold Xt Zw;simp
 rw[e];refine⟨qdy u (qdy A y B F) E rfl,rfl,?_⟩;unfold Nd.size at h1 ⊢;simp only[List.length_append];omega
structure Qbt (x:O9)(b:Nd)(above:Qs):Prop where
 fit:x.N.fit
 size:x.N.size<=b.size+12
 lvl:x.N.lvl=b.lvl
 ij:x.i<=x.j
 j:x.j<=above.N.size
theorem quf {P P':Pl}{D:DM}{s above:Qs}{b:Nd}{x:O9}(I:∀a b,P.L a=some b->b.good)(E:b.fit)(_:above.N.fit)(K:above.N.lvl=b.lvl+1)(_:0<=b.lvl)(hn:above.next+1<=above.N.size)(h:P.have_ D s b above=some (x,P')):Qbt x b above:=by
 have kid:∀i,P.Wi D above i=true->(P.Je D above i).N.fit/\(P.Je D above i).N.size<=12/\(P.Je D above i).N.lvl=b.lvl/\i<above.N.size:=λi u=>by
  obtain⟨M,J,O⟩:=of_decide_eq_true u;have hm:=ql1 I _ J;refine⟨Me hm,q5i hm,?_,by unfold Nd.size;omega⟩;show (P.Qd D (Qe above.N.kids i).a).lvl=_;omega
 unfold Pl.have_ at h;split at h
 ·injection Option.some.inj h with m F;subst m;exact⟨E,Nat.le_add_right _ _,rfl,Nat.le_succ _,hn⟩
 ·split at h
  ·rename_i h0;obtain⟨H,f,e⟩:=Option.map_eq_some_iff.1 h;injection e with m F;subst m;unfold Pl.near at f;split at f
   ·rename_i u;obtain⟨A,B,y,G⟩:=kid _ u;refine⟨?_,?_,y,?_,hn⟩
    ·dsimp only;rw[q90];exact qdy A E rfl y.symm
    ·dsimp only;rw[q90];unfold Nd.size at B ⊢;simp only[List.length_append];omega
    ·dsimp only;omega
   ·cases f
  ·obtain⟨H,f,e⟩:=Option.map_eq_some_iff.1 h;injection e with m F;subst m;unfold Pl.near at f;split at f
   ·rename_i u;obtain⟨A,B,y,G⟩:=kid _ u;refine⟨?_,?_,rfl,?_,G⟩
    ·dsimp only;rw[q90];exact qdy E A rfl y
    ·dsimp only;rw[q90];unfold Nd.size at B ⊢;simp only[List.length_append];omega
    ·dsimp only;omega
   ·cases f
theorem q3y:∀(olds:List Qs) (P:Pl) (m:List Nd) (y:List Qj) {P':Pl} {f:List Nd} {u:List Qj},Gs olds P m y=some (P',f,u)->u.length+f.length=y.length+m.length
 |[],P,m,y,P',f,u,h=>by
  injection Option.some.inj h with H B;injection B with B F;rw[<-B,<-F]
 |s::olds,P,[],y,P',f,u,h=>by
  obtain⟨A,_,h2⟩:=qaj h;exact q3y olds A [] y h2
 |s::olds,P,b::m,y,P',f,u,h=>by
  by_cases E:s.shared=true\/P.C.fresh s.addr=false
  ·obtain⟨A,_,h2⟩:=q3x E h;exact q3y olds A (b::m) y h2
  ·have h1:s.shared=false:=by
    cases e:s.shared with
    |false=>rfl
    |true=>exact absurd (.inl e) E
   have h2:P.C.fresh s.addr=true:=by
    cases e:P.C.fresh s.addr with
    |true=>rfl
    |false=>exact absurd (.inr e) E
   obtain⟨_,G⟩:=qak h1 h2 h;have:=q3y olds _ m _ G;rw[List.length_append] at this;simp at this ⊢;omega
theorem qc5:∀(e:List Nd) (P:Pl) (m:List Qj) {P':Pl} {f:List Qj},J7 e P m=some (P',some f)->f.length=m.length+e.length
 |[],P,m,P',f,h=>by
  injection Option.some.inj h with y u;rw[<-Option.some.inj u];rfl
 |b::e,P,m,P',f,h=>by
  rcases qal h with⟨_,h2⟩|⟨_,h2⟩
  ·have:=qc5 e _ _ h2;rw[List.length_append] at this;simp at this ⊢;omega
  ·injection h2 with _ h2
   cases h2
theorem qme {N:Nd}(h:N.size<=31):(pieces N).length<=7:=by
 unfold pieces;rw[List.length_map,List.length_range];unfold parts;have h1:6<=Qo N.lvl:=by unfold Qo;split<;>omega
 have h2:N.size+Qo N.lvl-1<8*Qo N.lvl:=by omega
 have:=Nat.div_lt_of_lt_mul (m:=N.size+Qo N.lvl-1) (n:=Qo N.lvl) (k:=8) (by rw[Nat.mul_comm];exact h2);omega
theorem qxs {P P':Pl}{x:O9}{ks:List Qj}(h:P.Y3 x=some (P',some ks)):ks.length=(pieces x.N).length:=by
 unfold Pl.Y3 at h;split at h
 ·rename_i u f m e;have h1:=q3y _ _ _ _ e;have h2:=qc5 _ _ _ h;simp at h1;omega
 ·cases h
theorem qfs {D:DM}{above:Qs}{way:List Qs}{P P':Pl}{s:Qs}{i j:Nat}{e:Nd}{r:Option Int}(h:Y8 D (above::way) P s i j e=some (P',r)) :
  ∃m x u f A,P.Q8 s i j=some m/\m.have_ D s (Xt s i j e) above=some (x,u)/\u.Y3 x=some (f,A)/\((A=none/\f=P'/\r=none)\/∃y,A=some y/\Y8 D way f above x.i x.j ⟨x.N.lvl+1,[],y⟩=some (P',r)):=by
 have h:(match P.Q8 s i j with
  |some m=>match m.have_ D s (Xt s i j e) above with
   |some (x,u)=>match u.Y3 x with
    |some (f,some y)=>Y8 D way f above x.i x.j ⟨x.N.lvl+1,[],y⟩
    |some (f,none)=>some (f,none)
    |none=>none
   |none=>none
  |none=>none)=some (P',r):=h
 cases h1:P.Q8 s i j with
 |none=>rw[h1] at h;cases h
 |some m=>
  rw[h1] at h;dsimp only at h
  cases h2:m.have_ D s (Xt s i j e) above with
  |none=>rw[h2] at h;cases h
  |some q=>
   obtain⟨x,u⟩:=q;rw[h2] at h;dsimp only at h
   cases B:u.Y3 x with
   |none=>rw[B] at h;cases h
   |some q=>
    obtain⟨f,A⟩:=q;rw[B] at h;refine⟨m,x,u,f,A,rfl,h2,B,?_⟩
    cases A with
    |none=>
     injection Option.some.inj h with E F;exact .inl ⟨rfl,E,F.symm⟩
    |some y=>exact .inr ⟨y,rfl,h⟩
theorem qjx {D:DM}{P P':Pl}{s:Qs}{i j:Nat}{e:Nd}{r:Option Int}(h:Y8 D [] P s i j e=some (P',r)):∃f,P.Q8 s i j=some f/\f.top s (Xt s i j e)=some (P',r):=by
 have h:(match P.Q8 s i j with|some f=>f.top s (Xt s i j e)|none=>none)=some (P',r):=h
 cases h1:P.Q8 s i j with
 |none=>rw[h1] at h;cases h
 |some f=>rw[h1] at h;exact⟨f,rfl,h⟩
theorem q59 (l:List Qs)(s:Qs):Y6 (l++[s]) l.length=s:=by simp[Y6]
section
def stB (p v:Value):Sem Unit:=Instr.storeAt 178 p v
theorem qug (p v:Value):Instr.storeAt 178 p v=stB p v:=rfl
theorem qhz {w:World}{b:Nat}{l:Int}{A:Option Addr}{n c:Nat}{B:Option Addr}{m d:Nat}(H:NB w b l A n c B m d)(y:Int)(e:Option Addr)(F c2:Nat)(f:Option Addr)(E u:Nat) :
  (stB (.pointer (some ⟨b,0,none⟩)) (.agg #[.int .i64 y,.slice e F c2,.slice f E u])).run Tryz.prog w=.ok () (w.setCells b 0 [.int .i64 y,.slice e F c2,.slice f E u]):=
 run_storeAt_mid w b 0 178 #[.int .i64 y,.slice e F c2,.slice f E u] H.there (by kernel_rfl) (by simp[Value.oneCell'])
abbrev Bf:Obj:=.cells #[.int .i64 0,.slice none 0 0,.slice none 0 0] 178
theorem q4f (w:World):NB (w.alloc Bf) w.1.size 0 none 0 0 none 0 0:=NB.new w 0 none 0 0 none 0 0 178
attribute [local go_sem ↓] qdt
attribute [local go_sem ↓] qug
section
variable {b:Nat}{d p:Nat}{S0 S:Nat->Prop}{D:DM}
def Gy (b:Nat)(d p:Nat)(S0 S T:Nat->Prop)(D:DM)(w:World)(P':Pl)(r:Option Int)(e:Ending)(w':World):Prop:=∃v,e=.returned (.tuple #[.int .i64 v,.int .i64 (Qbm r)])/\(∀a,r=some a->v=a)/\Qg b w' d p S0 S T D P'/\Turn S w w'/\Tab w'/\P'.tidy
theorem Bj.good {b:Nat}{w0 w:World}{d p:Nat}{S0 S T T':Nat->Prop}{D:DM}{P:Pl}(h:Bj b w0 w d p S0 S T T' D P):∀a b,P.L a=some b->b.good:=by
 obtain⟨m,c,l,k,v,e,L⟩:=h.sys.pool;exact L.good
theorem qc6 {w:World}{T:Nat->Prop}{P P1:Pl}(H:Qg b w d p S0 S T D P)(hb:1<b)(ht:Tab w)(hP:P.tidy)(s:Qs)(way:List Qs)(i3:s.N.fit)(p5:s.N.size<=12)(k8:0<=s.N.lvl/\s.N.lvl<8)(X:Option Addr)(n c:Nat)(hX:∀u,Turn S w u->Ve (Turn S w) u X n c (way.reverse++[s]))(hn:n<=20)
  (y:Nd) (s0:y.fit) (r9:y.size<=7) (i1:y.lvl=s.N.lvl) (A2:Option Addr) (n2 c2:Nat) (B2:Option Addr) (m2 d2:Nat) (hB:Jf (Turn S w) y A2 n2 c2 B2 m2 d2) (i j:Nat) (hi:i<=j) (hj:j<=s.N.size) {P':Pl} {r:Option Int} (i2:Y8 D way P s i j y=some (P',r)) (b0:P.Q8 s i j=some P1) (s8:Hid (Vq s way))
  (a8:∀(t:Qs) (g3:List Qs),way=t::g3->∀{T2:Nat->Prop} {w2:World} {P3:Pl} (_:Qg b w2 d p S0 S T2 D P3) (_:Tab w2) (_:P3.tidy) (_:t.N.fit) (_:t.N.size<=12) (_:0<=t.N.lvl/\t.N.lvl<8) (_:Hid (Vq t g3)) (_:∀u,Turn S w2 u->Ve (Turn S w2) u X (n-1) c (g3.reverse++[t])) (a1:Nd) (_:a1.fit) (_:a1.size<=7) (_:a1.lvl=t.N.lvl) (A:Option Addr) (n' c':Nat) (B:Option Addr) (m' d':Nat) (_:Jf (Turn S w2) a1 A n' c' B m' d') (i j:Nat) (_:i<=j) (_:j<=t.N.size) (_:Y8 D g3 P3 t i j a1=some (P',r)),Calls Tryz.prog 110 #[tv p,.slice X (n-1) c,.int .i64 (i:Int),.int .i64 (j:Int),Xw a1.lvl A n' c' B m' d'] w2 (Gy b d p S0 S T2 D w2 P' r)) :
  Calls Tryz.prog 110 #[tv p,.slice X n c,.int .i64 (i:Int),.int .i64 (j:Int),Xw y.lvl A2 n2 c2 B2 m2 d2] w (Gy b d p S0 S T D w P' r):=by
 rw[i1];replace i1:=Lib.hid i1;replace i2:=Lib.hid i2;have hS:=H.low;have f9:=(hX w (Turn.refl _ _)).len;have u1:=(hX w (Turn.refl _ _)).cap;rw[List.length_append,List.length_reverse] at f9;have f9:way.length+1=n:=f9;obtain⟨m,hm⟩:∃m,n-1=m:=⟨_,rfl⟩;rw[hm] at a8;replace a8:=Lib.hid a8;have k5:way.length=m:=by omega
 have Z:=λ(u:World) (hu:Turn S w u)=>qfp (hX u hu) (by omega) (by omega)
 have b5:Y6 (way.reverse++[s]) (n-1)=s:=by
  have:=q59 way.reverse s;rw[List.length_reverse,k5] at this;rw[hm];exact this
 rw[b5] at Z;have j7:∀u,Below w.1.size w u->Turn S w u:=λu hu=>Qx hu
 obtain⟨f,ad,nx,hd,sh⟩:=s;unfold Vf at Z;dsimp only at i3 p5 k8 i1 hj Z ⊢;replace Z:=Lib.hid Z;have b1:Below w.1.size w ((w.alloc (.cells #[.pointer (some ⟨p,0,none⟩)] 173)).alloc (.cells #[.int .i64 f.lvl,.slice A2 n2 c2,.slice B2 m2 d2] 178)):=(Qk).alloc (by simp) _;have T1:RB ((w.alloc (.cells #[.pointer (some ⟨p,0,none⟩)] 173)).alloc (.cells #[.int .i64 f.lvl,.slice A2 n2 c2,.slice B2 m2 d2] 178)) w.1.size [.pointer (some ⟨p,0,none⟩)]:=(RB.new w [.pointer (some ⟨p,0,none⟩)] 173).below (Qk) (by simp);have N1:NB ((w.alloc (.cells #[.pointer (some ⟨p,0,none⟩)] 173)).alloc (.cells #[.int .i64 f.lvl,.slice A2 n2 c2,.slice B2 m2 d2] 178)) (w.1.size+1) f.lvl A2 n2 c2 B2 m2 d2:=NB.new2 w _ _ _ _ _ _ _ _ _;have hw:IntKind.i64.wrap ((n:Int)-1)=(m:Int):=by rw[show (n:Int)-1=(m:Int) by omega];exact IntWalk.i64_in _ (by omega)
 have u6:(0:Int)<=(m:Int):=by omega
 have u7:(m:Int)<=(c:Int):=by omega
 clear hm f9 b5;unfold tv Xw;go_enter Tryz.func110,Tryz.ntmps110
 go_wp2_with fail
 generalize ((w.alloc (.cells #[.pointer (some ⟨p,0,none⟩)] 173)).alloc (.cells #[.int .i64 f.lvl,.slice A2 n2 c2,.slice B2 m2 d2] 178))=w1 at b1 T1 N1 ⊢;have z1:=N1.lt;have z0:=b1.size;have bD:Below w1.1.size w1 w1.drew:=(Below.refl _ _).drew;have bA:Below w1.1.size w1 (w1.alloc Ud).drew:=(Qk).drew;have QA:RB (w1.alloc Ud).drew w1.1.size (Jb 0 none 0 0 none 0 0 0 0 false false):=F9 w1;have hK:∀u:World,Below w1.1.size w1 u->True:=λ_ _=>trivial
 replace j7:=Lib.hid j7;go_cut [1,12] from 19 to 25 (λx q wx=>∃(qb:Nat) (A:Option Addr) (n' c':Nat) (B:Option Addr) (mm dd:Nat),x=.slice X m c/\q=.pointer (some ⟨qb,0,none⟩)/\w1.1.size<=qb/\RB wx qb (Jb f.lvl A n' c' B mm dd ad (nx:Int) hd sh)/\Jf (Turn S wx) f A n' c' B mm dd/\Below w1.1.size w1 wx)
 case first=>
  go_region_held3 (λ_=>True)
   (first|(with_reducible assumption)|exact trivial)
   (first
    |(go_at_call 109;(with_reducible refine (Z.out w1.drew (j7.out _ (b1.trans (bD.mono b1.size)))).mono ?_);rintro e w3 ⟨A3,n3,c3,B3,m3,d3,rfl,m4,i0⟩;have b2:Below w1.1.size w1 w3:=bD.trans i0;have j0:=b2.alloc b2.size Ud;obtain⟨b5,RQ,TQ,BQ⟩:=qdu j0 b2.size (F9 w3) rfl f.lvl A3 n3 c3 B3 m3 d3 ad (nx:Int) hd sh;have HX:=Lib.hid (And.intro RQ (And.intro TQ (And.intro BQ (And.intro j0 b2))));clear RQ TQ BQ j0 i0)
    |(go_at_call 109;(with_reducible refine (Z.out (w1.alloc Ud).drew (j7.out _ (b1.trans (bA.mono b1.size)))).mono ?_);rintro e w3 ⟨A3,n3,c3,B3,m3,d3,rfl,m4,i0⟩;have b2:Below w1.1.size w1 w3:=bA.trans (i0.mono bA.size);obtain⟨b5,RQ,TQ,BQ⟩:=qdu b2 (Nat.le_refl _) (QA.below i0 QA.lt) rfl f.lvl A3 n3 c3 B3 m3 d3 ad (nx:Int) hd sh;have HX:=Lib.hid (And.intro RQ (And.intro TQ (And.intro BQ (And.intro b2 b2))));clear RQ TQ BQ i0)
    |fail)
  ·obtain⟨RQ,TQ,BQ,j0,_⟩:=HX.out;go_wp2_with fail
   go_meet
   exact⟨w3.1.size,A3,n3,c3,B3,m3,d3,rfl,rfl,b2.size,RQ,m4.mono λv hv=>(Qx (S:=S) (b1.trans (BQ.mono b1.size))).trans hv λk hk=>.inl hk,BQ⟩
  ·obtain⟨RQ,TQ,BQ,j0,_⟩:=HX.out;go_wp2_with fail
   go_meet
   exact⟨w1.1.size,A3,n3,c3,B3,m3,d3,rfl,rfl,Nat.le_refl _,RQ,m4.mono λv hv=>(Qx (S:=S) (b1.trans (BQ.mono b1.size))).trans hv λk hk=>.inl hk,BQ⟩
 case rest=>
  obtain⟨qb,A,n',c',B,mm,dd,rfl,rfl,u9,RQ,e7,BQ⟩:=hcut;have k4:f.size<=20:=by omega
  have k7:=e7.hn;have k6:=e7.hm;have k0:=e7.size;have s2:=qah e7 i3 hj;have L0:=((Bj.start H hb ht hP).below b1).below BQ;have TC:=T1.below BQ T1.lt;have NC:=N1.below BQ N1.lt;have zq:=BQ.size;have Hr:=q8e L0.sys hb L0.tab ⟨f,ad,nx,hd,sh⟩ i3 A n' c' B mm dd e7 i j hi hj k4 b0;unfold tv Vf at Hr;dsimp only at Hr;replace Hr:=Lib.hid Hr;have y0:=TC.cell 0 rfl;have f0:=RQ.cell 0 rfl;have f1:=RQ.cell 1 rfl;have f2:=RQ.cell 2 rfl;have f3:=RQ.cell 3 rfl;have f4:=RQ.cell 4 rfl;have f5:=RQ.cell 5 rfl;have f6:=RQ.cell 6 rfl;clear j7 hK QA bA bD Z;go_wp2_with fail
  refine Hr.out.mono ?_;rintro e I ⟨rfl,H4,X4,t4⟩;have L4:=L0.step H4 X4 t4 (hP.Q8 b0);have z4:=X4.size;have R4:=RQ.turned X4 (λh=>by have:=hS _ h;omega);have T4:=TC.turned X4 (λh=>by have:=hS _ h;omega);have N4:=NC.turned X4 (λh=>by have:=hS _ h;omega);have TW:Turn S w I:=(Qx (S:=S) (b1.trans (BQ.mono b1.size))).then X4;have o9:Jf (Turn S I) y A2 n2 c2 B2 m2 d2:=hB.mono λv hv=>TW.then hv
  have i4:Jf (Turn S I) f A n' c' B mm dd:=e7.mono λv hv=>X4.then hv
  clear y0 f0 f1 f2 f3 f4 f5 f6 Hr TC NC RQ e7;go_wp2_with fail
  obtain⟨A6,n6,c6,B6,m6,d6,e1,q1,l1⟩:=q7i i4 (i:=0) (j:=i) (Nat.zero_le _) (by omega);obtain⟨A7,n7,c7,B7,m7,d7,e2,q2,l2⟩:=q7i i4 (i:=j) (j:=f.size) (by omega) (qah i4 i3 (Nat.le_refl _));have b8:=λu=>q3d f.lvl A n' c' B mm dd 0 i (Nat.zero_le _) (by omega) ⟨k7.2.1,k7.2.2⟩ ⟨k6.2.1,k6.2.2⟩ u
  have g6:=λu=>q3d f.lvl A n' c' B mm dd j f.size (by omega) (qah i4 i3 (Nat.le_refl _)) ⟨k7.2.1,k7.2.2⟩ ⟨k6.2.1,k6.2.2⟩ u
  have HS:=λu=>q1u f.lvl A n' c' B mm dd (by omega) (by omega) u
  rw[e1] at b8;rw[show ((0:Nat):Int)=0 from rfl] at b8;rw[e2] at g6;rw[<-k0] at HS;unfold Xw at b8 g6 HS;replace b8:=Lib.hid b8;replace g6:=Lib.hid g6;replace HS:=Lib.hid HS;clear e1 e2 s2 k0;have b4:=λu=>qq2 (Q:=Turn S I) u 178 q1 o9 q2
  rw[l1,l2,i1.out] at b4;have f8:∀u:World,Ah (Turn S I) ((u.alloc Bf).alloc (.cells #[.int .i64 f.lvl,.slice A6 n6 c6,.slice B6 m6 d6,.int .i64 f.lvl,.slice A2 n2 c2,.slice B2 m2 d2,.int .i64 f.lvl,.slice A7 n7 c7,.slice B7 m7 d7] 178)) (some ⟨u.1.size+1,0,none⟩) 3 3 [f.cut 0 i,y,f.cut j f.size]:=λu=>by
   have:=b4 (u.alloc Bf);rwa [World.size_alloc] at this
  replace b4:=Lib.hid b4;replace f8:=Lib.hid f8;have u2:y.items.length<=7/\y.kids.length<=7:=by unfold Nd.size at r9;omega
  have u4:f.items.length<=12/\f.kids.length<=12:=by unfold Nd.size at p5;omega
  have l3:∀k,S k->k<I.1.size:=λk hk=>by have:=hS k hk;omega
  have Hj:∀(S':Nat->Prop) (_:∀k,S' k->S k\/I.1.size<=k) (u:World) (_:∀k,S' k->k<u.1.size) (_:Below I.1.size I u) (X:Option Addr) (_:Ah (Turn S I) u X 3 3 [f.cut 0 i,y,f.cut j f.size]),Calls Tryz.prog 186 #[.slice X 3 3] u λe W=>∃A n c B m d,e=.returned (Xw f.lvl A n c B m d)/\Jf (Turn S' W) (Xt ⟨f,ad,nx,hd,sh⟩ i j y) A n c B m d/\Below u.1.size u W:=λS' r5 u r6 hu X hX=>
   q3w (S:=S') (w:=u) r6 [f.cut 0 i,y,f.cut j f.size] f.lvl l1 X 3 3 (by
    obtain⟨t1,r1,r2,r3⟩:=hX;exact⟨t1,r1,r2,λj r M hr hM=>by
     obtain⟨A',n',c',B',m',d',e',hq⟩:=r3 j r M hr hM;exact⟨A',n',c',B',m',d',e',hq.mono λv hv=>(Qx (S:=S) hu).trans hv r5⟩⟩) (by omega) (by omega)
    (by have h1:=q25 f 0 i;have h2:=q25 f j f.size;simp only[List.flatMap_cons,List.flatMap_nil,List.length_append,List.length_nil];omega)
    (by have h1:=q25 f 0 i;have h2:=q25 f j f.size;simp only[List.flatMap_cons,List.flatMap_nil,List.length_append,List.length_nil];omega)
  have v8:=R4.lt;have zn:=N4.lt;have cB:∀u,Below I.1.size I u->u.cell? ⟨qb,0,none⟩=some (.int .i64 f.lvl)/\u.cell? ⟨qb,1,none⟩=some (.slice A n' c')/\u.cell? ⟨qb,2,none⟩=some (.slice B mm dd)/\u.cell? ⟨w.1.size+1,0,none⟩=some (.int .i64 f.lvl)/\u.cell? ⟨w.1.size+1,1,none⟩=some (.slice A2 n2 c2)/\u.cell? ⟨w.1.size+1,2,none⟩=some (.slice B2 m2 d2):=λu hu=>
   have s1:=R4.below hu R4.lt;have n1:=N4.below hu N4.lt;⟨s1.cell 0 rfl,s1.cell 1 rfl,s1.cell 2 rfl,n1.c0,n1.c1,n1.c2⟩
  have g7:∀(u:World) (_:Below I.1.size I u) (q:Nat) (_:I.1.size<=q/\NB u q 0 none 0 0 none 0 0) (X:Option Addr) (_:Ah (Turn S I) u X 3 3 [f.cut 0 i,y,f.cut j f.size]),Calls Tryz.prog 186 #[.slice X 3 3] u λe W=>∃J U c5 K R O,e=.returned (.agg #[.int .i64 f.lvl,.slice J U c5,.slice K R O])/\Below I.1.size I W/\(stB (.pointer (some ⟨q,0,none⟩)) (.agg #[.int .i64 f.lvl,.slice J U c5,.slice K R O])).run Tryz.prog W=.ok () (W.setCells q 0 [.int .i64 f.lvl,.slice J U c5,.slice K R O])/\(NB (W.setCells q 0 [.int .i64 f.lvl,.slice J U c5,.slice K R O]) (q) f.lvl J U c5 K R O/\Jf (Turn S (W.setCells q 0 [.int .i64 f.lvl,.slice J U c5,.slice K R O])) (Xt ⟨f,ad,nx,hd,sh⟩ i j y) J U c5 K R O/\Below I.1.size I (W.setCells q 0 [.int .i64 f.lvl,.slice J U c5,.slice K R O])):=by
   intro u hu q hq X hX;refine (Hj (λk=>S k\/k=q) (λk hk=>hk.elim .inl λh=>.inr (by omega)) u (λk hk=>hk.elim (λh=>by have:=l3 k h;have:=hu.size;omega) λh=>by rw[h];exact hq.2.lt) hu X hX).mono ?_;rintro e W ⟨J,U,c5,K,R,O,rfl,h1,h2⟩;have hz:=hq.2.below h2 hq.2.lt;have d4:=hu.trans (h2.mono hu.size);have T8:Turn (λk=>k=q) W (W.setCells q 0 [.int .i64 f.lvl,.slice J U c5,.slice K R O]):=Vb (S:=λk=>k=q) rfl _ 0 W;exact⟨J,U,c5,K,R,O,rfl,d4,qhz hz f.lvl J U c5 K R O,hz.stored f.lvl J U c5 K R O,h1.mono λv hv=>(T8.mono λk hk=>.inr hk).then (hv.mono λk hk=>.inl hk),d4.trans (T8.below (λk hk=>by have:k=q:=hk;omega) d4.size)⟩
  have k1:∀(u:World) (_:Below I.1.size I u) (X:Option Addr) (_:Ah (Turn S I) u X 3 3 [f.cut 0 i,y,f.cut j f.size]),Calls Tryz.prog 186 #[.slice X 3 3] u λe W=>∃J U c5 K R O,e=.returned (.agg #[.int .i64 f.lvl,.slice J U c5,.slice K R O])/\Below I.1.size I W/\(stB (.pointer (some ⟨W.1.size,0,none⟩)) (.agg #[.int .i64 f.lvl,.slice J U c5,.slice K R O])).run Tryz.prog (W.alloc Bf)=.ok () ((W.alloc Bf).setCells W.1.size 0 [.int .i64 f.lvl,.slice J U c5,.slice K R O])/\(NB ((W.alloc Bf).setCells W.1.size 0 [.int .i64 f.lvl,.slice J U c5,.slice K R O]) (W.1.size) f.lvl J U c5 K R O/\Jf (Turn S ((W.alloc Bf).setCells W.1.size 0 [.int .i64 f.lvl,.slice J U c5,.slice K R O])) (Xt ⟨f,ad,nx,hd,sh⟩ i j y) J U c5 K R O/\Below I.1.size I ((W.alloc Bf).setCells W.1.size 0 [.int .i64 f.lvl,.slice J U c5,.slice K R O])):=by
   intro u hu X hX;refine (Hj S (λk hk=>.inl hk) u (λk hk=>by have:=l3 k hk;have:=hu.size;omega) hu X hX).mono ?_;rintro e W ⟨J,U,c5,K,R,O,rfl,h1,h2⟩;have hz:=q4f W;have d4:=hu.trans (h2.mono hu.size);have T8:Turn (λk=>k=W.1.size) (W.alloc Bf) ((W.alloc Bf).setCells W.1.size 0 [.int .i64 f.lvl,.slice J U c5,.slice K R O]):=Vb (S:=λk=>k=W.1.size) rfl _ 0 _;have p1:Below W.1.size W ((W.alloc Bf).setCells W.1.size 0 [.int .i64 f.lvl,.slice J U c5,.slice K R O]):=((Below.refl _ _).alloc (Nat.le_refl _) Bf).trans (T8.below (λk hk=>by have:k=W.1.size:=hk;omega) (by simp));exact⟨J,U,c5,K,R,O,rfl,d4,qhz hz f.lvl J U c5 K R O,hz.stored f.lvl J U c5 K R O,h1.mono λv hv=>(Qx (S:=S) p1).then hv,d4.trans (p1.mono d4.size)⟩
  have E:Below I.1.size I I.drew:=(Below.refl _ _).drew;have bA:Below I.1.size I (I.alloc Bf).drew:=(Qk).drew;have zA:NB (I.alloc Bf).drew I.1.size 0 none 0 0 none 0 0:=q4f I;replace cB:=Lib.hid cB;replace g7:=Lib.hid g7;replace k1:=Lib.hid k1;replace zA:=Lib.hid zA;have o4:=Lib.hid L4;have l6:=Lib.hid i4;clear Hj hB o9 i4 q1 q2 L0 L4;go_cut [14] from 34 to 47 (λq wx=>∃(qz:Nat) (J:Option Addr) (U c5:Nat) (K:Option Addr) (R O:Nat),q=.pointer (some ⟨qz,0,none⟩)/\I.1.size<=qz/\NB wx qz f.lvl J U c5 K R O/\Jf (Turn S wx) (Xt ⟨f,ad,nx,hd,sh⟩ i j y) J U c5 K R O/\Below I.1.size I wx)
  case first=>
   go_region_held3 (λu=>u.cell? ⟨qb,0,none⟩=some (.int .i64 f.lvl)/\u.cell? ⟨qb,1,none⟩=some (.slice A n' c')/\u.cell? ⟨qb,2,none⟩=some (.slice B mm dd)/\u.cell? ⟨w.1.size+1,0,none⟩=some (.int .i64 f.lvl)/\u.cell? ⟨w.1.size+1,1,none⟩=some (.slice A2 n2 c2)/\u.cell? ⟨w.1.size+1,2,none⟩=some (.slice B2 m2 d2))
    (first|(with_reducible assumption)|(with_reducible exact cB.out _ E)|(with_reducible exact cB.out _ bA)|(with_reducible exact cB.out _ (E.alloc E.size _))|(with_reducible exact cB.out _ ((E.alloc E.size _).alloc (E.alloc E.size _).size _))|(with_reducible exact cB.out _ hF.out.2.2.2))
    (first
     |(go_at_call 187;(with_reducible refine (b8.out _).mono ?_);rintro e wX ⟨rfl,G⟩;(first|(have F:=a6.out;replace a6:=Lib.hid (And.intro F.1 (F.2.below G F.2.lt));clear F;replace E:=E.trans (G.mono E.size))|(have a6:=Lib.hid (And.intro E.size ((q4f _).below G (by simp)));replace E:=(E.alloc E.size Bf).trans (G.mono (E.alloc E.size Bf).size))|(have a6:=Lib.hid (And.intro (Nat.le_refl I.1.size) (zA.out.below G zA.out.lt));replace E:=bA.trans (G.mono bA.size))|(replace E:=E.trans (G.mono E.size)));clear G)
     |(go_at_call 187;(with_reducible refine (g6.out _).mono ?_);rintro e wX ⟨rfl,G⟩;(first|(have F:=a6.out;replace a6:=Lib.hid (And.intro F.1 (F.2.below G F.2.lt));clear F;replace E:=E.trans (G.mono E.size))|(have a6:=Lib.hid (And.intro E.size ((q4f _).below G (by simp)));replace E:=(E.alloc E.size Bf).trans (G.mono (E.alloc E.size Bf).size))|(have a6:=Lib.hid (And.intro (Nat.le_refl I.1.size) (zA.out.below G zA.out.lt));replace E:=bA.trans (G.mono bA.size))|(replace E:=E.trans (G.mono E.size)));clear G)
     |(go_at_call 188;(with_reducible refine (HS.out _).mono ?_);rintro e wX ⟨rfl,G⟩;(first|(have F:=a6.out;replace a6:=Lib.hid (And.intro F.1 (F.2.below G F.2.lt));clear F;replace E:=E.trans (G.mono E.size))|(have a6:=Lib.hid (And.intro E.size ((q4f _).below G (by simp)));replace E:=(E.alloc E.size Bf).trans (G.mono (E.alloc E.size Bf).size))|(have a6:=Lib.hid (And.intro (Nat.le_refl I.1.size) (zA.out.below G zA.out.lt));replace E:=bA.trans (G.mono bA.size))|(replace E:=E.trans (G.mono E.size)));clear G)
     |(go_at_call 186;have F:=a6.out;(with_reducible refine (g7.out _ (E.alloc E.size _) _ (And.intro F.1 (F.2.below (Qk) F.2.lt)) _ (b4.out _)).mono ?_);rintro e wJ ⟨J,U,c5,K,R,O,rfl,bJ,b5,hF⟩;replace E:=bJ;replace hF:=Lib.hid (And.intro F.1 hF);clear bJ)
     |(go_at_call 186;(with_reducible refine (k1.out _ (E.alloc E.size _) _ (b4.out _)).mono ?_);rintro e wJ ⟨J,U,c5,K,R,O,rfl,bJ,b5,hF⟩;replace E:=bJ;replace hF:=Lib.hid (And.intro bJ.size hF);clear bJ)
     |(go_at_call 186;(with_reducible refine (g7.out _ ((E.alloc E.size _).alloc (E.alloc E.size _).size _) _ (And.intro (Nat.le_succ_of_le E.size) (NB.new2 _ _ 0 none 0 0 none 0 0 178)) _ ((b4.out _).below (Qk))).mono ?_);rintro e wJ ⟨J,U,c5,K,R,O,rfl,bJ,b5,hF⟩;have hz:=E.size;replace hF:=Lib.hid (And.intro (Nat.le_succ_of_le hz) hF);replace E:=bJ;clear bJ)
     |(go_at_call 186;(with_reducible refine (g7.out _ ((E.alloc E.size _).alloc (E.alloc E.size _).size _) _ (And.intro E.size ((q4f _).below (Qk) (by simp))) _ (f8.out _)).mono ?_);rintro e wJ ⟨J,U,c5,K,R,O,rfl,bJ,b5,hF⟩;have hz:=E.size;replace hF:=Lib.hid (And.intro hz hF);replace E:=bJ;clear bJ)
     |fail)
   all_goals (go_wp2_with fail;go_meet;exact⟨_,_,_,_,_,_,_,rfl,hF.out.1,hF.out.2.1,hF.out.2.2.1,hF.out.2.2.2⟩)
  case rest=>
   obtain⟨qz,J,U,c5,K,R,O,rfl,v1,NZ,p3,BZ⟩:=hcut;have L5:=o4.out.below BZ;have T5:=T4.below BZ T4.lt;have R5:=R4.below BZ R4.lt;have p4:Jf (Turn S wc) f A n' c' B mm dd:=l6.out.mono λv hv=>(Qx (S:=S) BZ).then hv
   have TZ:Turn S w wc:=TW.trans (Qx (S:=S) BZ) λk hk=>.inl hk
   have zz:=BZ.size;have x0:=NZ.lt;obtain⟨p8,b3,p9⟩:=qxr (s:=⟨f,ad,nx,hd,sh⟩) i3 s0 i1.out hi;have p9:(Xt ⟨f,ad,nx,hd,sh⟩ i j y).size<=f.size+y.size:=p9;have b3:(Xt ⟨f,ad,nx,hd,sh⟩ i j y).lvl=f.lvl:=b3;have y0:=T5.cell 0 rfl;have f0:=R5.cell 0 rfl;have f1:=R5.cell 1 rfl;have f2:=R5.cell 2 rfl;have f3:=R5.cell 3 rfl;have f4:=R5.cell 4 rfl;have f5:=R5.cell 5 rfl;have f6:=R5.cell 6 rfl;have g0:=NZ.c0;have g1:=NZ.c1;have g2:=NZ.c2;clear E bA zA b8 g6 HS b4 f8 g7 k1 cB o4 l6
   cases way with
   |nil=>
    obtain⟨m1,j9,l9⟩:=qjx i2.out;obtain rfl:P1=m1:=Option.some.inj (b0.symm.trans j9);have Ht:=quc L5.sys hb L5.tab L5.tidy ⟨f,ad,nx,hd,sh⟩ A n' c' B mm dd p4 (Xt ⟨f,ad,nx,hd,sh⟩ i j y) J U c5 K R O p3 p8 (by omega) (by rw[b3];exact k8) l9;rw[b3] at Ht;unfold tv Vf Xw at Ht;dsimp only at Ht;replace Ht:=Lib.hid Ht;obtain rfl:m=0:=k5.symm;clear l9 j9 b0 i2;go_wp2_with fail
    refine Ht.out.mono ?_;rintro e w6 ⟨v,rfl,hv,H6,X6,t6,p6⟩;have L6:=L5.step H6 X6 t6 p6;have TF:=TZ.then X6;go_wp2_with fail
    go_ret2;exact⟨v,rfl,hv,L6.done,TF,t6,p6⟩
   |cons t way=>
    obtain⟨m1,x,P2,P3,r2,j9,d9,l4,m9⟩:=qfs i2.out;obtain rfl:P1=m1:=Option.some.inj (b0.symm.trans j9);obtain⟨n9,q4,l0,o0,q5,u0⟩:=s8.out;have p0:∀u,Turn S w u->Ve (Turn S w) u X m c (way.reverse++[t]):=λu hu=>by
     have:=(hX u hu).take (show m<=n by omega);have e:((t::way).reverse++[(⟨f,ad,nx,hd,sh⟩:Qs)]).take m=way.reverse++[t]:=by
      have p2:(way.reverse++[t]).length=m:=by rw[<-k5];simp
      rw[List.reverse_cons,<-p2,List.take_left]
     rwa [e] at this
    have u3:way.length+1=m:=k5;have l8:Y6 (way.reverse++[t]) (m-1)=t:=by
     have:=q59 way.reverse t;rw[List.length_reverse] at this;rw[show m-1=way.length by omega];exact this
    have c9:=qfp (p0 wc TZ) (by omega) (by omega);rw[l8] at c9;have j8:=quf L5.good p8 n9 (by rw[b3];exact l0) (by rw[b3];exact k8.1) q5 d9;have a8:=λ{T2:Nat->Prop} {w2:World} {P3:Pl} (h:Qg b w2 d p S0 S T2 D P3)=>a8.out t way rfl h
    obtain⟨tN,i7,e9,i8,i9⟩:=t;unfold Vf at c9;dsimp only at n9 q4 l0 o0 q5 c9;have xl:x.N.lvl=f.lvl:=j8.lvl.trans b3;have gm:¬(m:Int)=0:=by omega
    have o1:=l0;replace o1:=Lib.hid o1;have d0:=λ(u:World) (hu:Below wc.1.size wc u) (A6:Option Addr) (n6 c6:Nat) (B6:Option Addr) (m6 d6:Nat) (hA:P5 (Turn S u) B6 m6 d6 tN.kids)=>qq7 (L5.below hu).sys hb (L5.below hu).tab L5.tidy ⟨f,ad,nx,hd,sh⟩ A n' c' B mm dd (p4.mono λv hv=>(Qx (S:=S) hu).then hv) (Xt ⟨f,ad,nx,hd,sh⟩ i j y) J U c5 K R O (p3.mono λv hv=>(Qx (S:=S) hu).then hv) ⟨tN,i7,e9,i8,i9⟩ A6 n6 c6 B6 m6 d6 hA ⟨by show 1<=tN.lvl;omega,o0⟩ (by show e9<=60;omega) (by omega) d9
    rw[b3,xl] at d0;unfold tv Vf Xe Xw at d0;dsimp only at d0;replace d0:=Lib.hid d0;replace c9:=Lib.hid c9;have t7:1<=tN.lvl/\tN.lvl<8:=by omega
    have o2:=Lib.hid xl;clear j9 b0 i2 hX l8 l0 o0 xl b3;go_wp2_with fail
    refine c9.out.mono ?_;rintro e w6 ⟨A6,n6,c6,B6,m6,d6,rfl,s4,b6⟩;obtain⟨w7,p7,Q7,b7⟩:∃w7,(stS (.pointer (some ⟨w6.1.size,0,none⟩)) (.agg #[.int .i64 tN.lvl,.slice A6 n6 c6,.slice B6 m6 d6,.int .i64 i7,.int .i64 (e9:Int),.bool i8,.bool i9])).run Tryz.prog (w6.alloc Ud)=.ok () w7/\RB w7 w6.1.size (Jb tN.lvl A6 n6 c6 B6 m6 d6 i7 (e9:Int) i8 i9)/\Below w6.1.size w6 w7:=by
     have T7:Turn (λk=>k=w6.1.size) (w6.alloc Ud) ((w6.alloc Ud).setCells w6.1.size 0 (Jb tN.lvl A6 n6 c6 B6 m6 d6 i7 (e9:Int) i8 i9)):=Vb (S:=λk=>k=w6.1.size) rfl _ 0 _;exact⟨_,qht (F9 w6) rfl tN.lvl A6 n6 c6 B6 m6 d6 i7 (e9:Int) i8 i9,(F9 w6).stored (Jb tN.lvl A6 n6 c6 B6 m6 d6 i7 (e9:Int) i8 i9) rfl,((Below.refl _ _).alloc (Nat.le_refl _) Ud).trans (T7.below (λk hk=>by have:k=w6.1.size:=hk;omega) (by simp))⟩
    have d1:=b6.trans (b7.mono b6.size);have z7:=d1.size;have z6:=b6.size;have v7:=Q7.lt;have L7:=L5.below d1;have T7:=T5.below d1 T5.lt;have R7:=R5.below d1 R5.lt;have N7:=NZ.below d1 NZ.lt;have o8:P5 (Turn S w7) B6 m6 d6 tN.kids:=λv hv=>s4.Df v ((TZ.trans (Qx (S:=S) d1) λk hk=>.inl hk).then hv)
    clear y0 f0 f1 f2 f3 f4 f5 f6 g0 g1 g2;have y0:=T7.cell 0 rfl;have f0:=R7.cell 0 rfl;have f1:=R7.cell 1 rfl;have f2:=R7.cell 2 rfl;have f3:=R7.cell 3 rfl;have f4:=R7.cell 4 rfl;have f5:=R7.cell 5 rfl;have f6:=R7.cell 6 rfl;have g0:=N7.c0;have g1:=N7.c1;have g2:=N7.c2;have e0:=Q7.cell 0 rfl;have e1:=Q7.cell 1 rfl;have e2:=Q7.cell 2 rfl;have e3:=Q7.cell 3 rfl;have e4:=Q7.cell 4 rfl;have e5:=Q7.cell 5 rfl;have e6:=Q7.cell 6 rfl;go_wp2_with fail
    refine (d0.out w7 d1 A6 n6 c6 B6 m6 d6 o8).mono ?_;rintro e w8 ⟨A8,n8,c8,B8,m8,d8,Y,k,rfl,s5,r7,u5,H8,X8,t8⟩;have L8:=L7.step H8 X8 t8 (qq8 L5.tidy d9);have T8:=T7.turned X8 (λh=>by have:=hS _ h;omega);have z8:=X8.size;clear p7 y0 f0 f1 f2 f3 f4 f5 f6 g0 g1 g2 e0 e1 e2 e3 e4 e5 e6 d0 c9 o8;obtain⟨xi,n0⟩:∃xi,x.i=xi:=⟨_,rfl⟩;obtain⟨xj,n4⟩:∃xj,x.j=xj:=⟨_,rfl⟩;rw[n0,n4];go_wp2_with (first
     |(refine q8d rfl (.tmp 16) _ rfl w8.1.size rfl f.lvl A8 n8 c8 B8 m8 d8 Y k k (xi:Int) (xj:Int) rfl (RB.new w8 (Xe 0 none 0 0 none 0 0 none 0 0 0 0) 274) rfl ?_;intro w9 R9 r0;have b9:Below w8.1.size w8 w9:=(Qk).trans (r0.below (λk hk=>by have:k=w8.1.size:=hk;omega) (by simp));have T9:=T8.below b9 T8.lt;have y0:=T9.cell 0 rfl;have f0:=R9.cell 0 rfl;have f1:=R9.cell 1 rfl;have f2:=R9.cell 2 rfl;have f3:=R9.cell 3 rfl;have f4:=R9.cell 4 rfl;have f5:=R9.cell 5 rfl)
     |fail)
    have L9:=L8.below b9;have z9:=b9.size;have x1:=R9.lt;have s6:Jf (Turn S w9) x.N A8 n8 c8 B8 m8 d8:=s5.mono λv hv=>(Qx (S:=S) b9).then hv
    have r8:∀u,Turn S w9 u->Ve (Turn S w9) u Y k k x.olds:=λu hu=>(r7 u ((Qx (S:=S) b9).then hu)).mono λv hv=>(Qx (S:=S) b9).then hv
    have u8:=j8.size;have Hl:=qjw L9.sys hb L9.tab L9.tidy x A8 n8 c8 B8 m8 d8 s6 j8.fit (by omega) (by rw[o2.out];exact k8) Y k k r8 (by omega) l4 (xi:Int) (xj:Int);rw[o2.out] at Hl;unfold tv Xe Xw at Hl;replace Hl:=Lib.hid Hl;refine Hl.out.mono ?_;rintro e a2 ⟨g4,i6,g8,g5,i5,g9,l,rfl,l5,q6,k2,t2,s9⟩;have q8:=L9.step q6 k2 t2 s9;have o7:=T9.turned k2 (λh=>by have:=hS _ h;omega);have o5:=R9.turned k2 (λh=>by have:=hS _ h;omega);have v6:=k2.size;clear y0 f0 f1 f2 f3 f4 f5 Hl;obtain⟨k9,s7,m0,k3⟩:∃k9,(stB (.pointer (some ⟨a2.1.size,0,none⟩)) (.agg #[.int .i64 l,.slice g4 i6 g8,.slice g5 i5 g9])).run Tryz.prog (a2.alloc Bf)=.ok () k9/\NB k9 a2.1.size l g4 i6 g8 g5 i5 g9/\Below a2.1.size a2 k9:=by
     have TT:Turn (λk=>k=a2.1.size) (a2.alloc Bf) ((a2.alloc Bf).setCells a2.1.size 0 [.int .i64 l,.slice g4 i6 g8,.slice g5 i5 g9]):=Vb (S:=λk=>k=a2.1.size) rfl _ 0 _;exact⟨_,qhz (q4f a2) l g4 i6 g8 g5 i5 g9,(q4f a2).stored l g4 i6 g8 g5 i5 g9,((Below.refl _ _).alloc (Nat.le_refl _) Bf).trans (TT.below (λk hk=>by have:k=a2.1.size:=hk;omega) (by simp))⟩
    have a7:=q8.below k3;have q9:=o7.below k3 o7.lt;have o6:=o5.below k3 o5.lt;rcases m9 with⟨rfl,rfl,rfl⟩|⟨ks,rfl,e8⟩
    ·unfold Ru;dsimp only;go_wp2_with fail
     go_ret2;exact⟨0,rfl,λa e=>(by cases e),a7.done,a7.turn,a7.tab,a7.tidy⟩
    ·obtain⟨hl,l7⟩:=l5 ks rfl;have s3:ks.length<=7:=by
      rw[qxs l4];exact qme (by omega)
     rw[o2.out] at e8;have HR:=a8 a7.sys a7.tab a7.tidy n9 q4 ⟨by show 0<=tN.lvl;omega,t7.2⟩ (Lib.hid u0) (λu hu=>(p0 u (a7.turn.then hu)).mono λv hv=>a7.turn.then hv) ⟨f.lvl+1,[],ks⟩ ⟨λh=>by
       have h:f.lvl+1=0:=h;omega,λ_=>rfl⟩ (by unfold Nd.size;simp;exact s3) o1.out.symm g4 i6 g8 g5 i5 g9 (l7.mono λv hv=>(Qx (S:=S) k3).then hv) x.i x.j j8.ij j8.j e8
     dsimp only at HR;rw[<-hl,n0,n4] at HR;unfold tv Xw at HR;replace HR:=Lib.hid HR;have y0:=q9.cell 0 rfl;have f4:=o6.cell 4 rfl;have f5:=o6.cell 5 rfl;have g0:=m0.c0;have g1:=m0.c1;have g2:=m0.c2;clear hl l5 l7 e8 n0 n4;unfold Ru;dsimp only;go_wp2_with fail
     refine HR.out.mono ?_;rintro e v2 ⟨v,rfl,hv,q7,r4,q3,q0⟩;have o3:=a7.step q7 r4 q3 q0;go_wp2_with fail
     go_ret2;exact⟨v,rfl,hv,o3.done,o3.turn,q3,q0⟩
end
end
