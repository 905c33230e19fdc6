/- The steps of Put and Delete in a pool some of whose nodes are open: who owns what then -/
import Derived.Test.YtnnbaihfboacoaaGreatDoorEt26
namespace Go.Proofs.YtnnbaihfboacoaaGreatDoor
open Go Go.RowKit Go.Proofs
set_option maxHeartbeats 8000000
set_option maxRecDepth 100000
section
variable {D:DM}{S0:Sp}{C0:Ct}{O H:List Int}{P:Pl}
theorem Keep.nonneg (K:Keep D S0 C0 O H P)(x:Int):0<=P.C.get x:=(Ct.Jc K.c x).1
theorem Keep.low (K:Keep D S0 C0 O H P)(hH:H.length<=30000){c:Nat}(h0:P.C.get (c:Int)≠0):P.C.get (c:Int)<=60000:=by
 obtain⟨c0,y⟩:=K.first h0
 have h:=K.Uc.eq c c0 y;have h1:H.count (c:Int)<=H.length:=List.count_le_length;have h2:=qlk (K:=λb=>(P.hide D O (b:Int)).1.named) (most:=P.C.n) (k:=12) (out:=P.cnt) (λb m=>by
  show ((P.hide D O (b:Int)).1.named).length<=12;by_cases f:P.C.get (b:Int)=0
  ·by_cases e:(b:Int)∈O
   ·rw[Pe e];exact Nat.zero_le _
   ·rw[q1z e,q0z f];exact Nat.zero_le _
  ·by_cases e:(b:Int)∈O
   ·rw[Pe e];exact Nat.zero_le _
   ·have L:=K.loc b m f e;rw[q3l L,List.length_map];by_cases u:(P.hide D O (b:Int)).1.lvl=0
    ·have:=(q1r L.may u).1;rw[this];exact Nat.zero_le _
    ·exact (Py L.may u).2.2.2.2.1) c
 have E:=K.c.1.2;have m:=Ct.Jc K.c (c:Int);have B:P.cnt c=(P.C.get (c:Int)).toNat:=rfl;omega
theorem qg7:∀(e:List Int) {H:List Int} {P:Pl},Keep D S0 C0 O H P->(∀x∈e,(P.hide D O x).2=0)->H.length+e.length<=30000->
  ∃P',Um e P=some P'/\Keep D S0 C0 O (e++H) P'/\∀l,Move l D O O P P' 0
 |[],H,P,K,_,_=>⟨P,rfl,K,λl=>Move.refl l D O P⟩
 |a::r,H,P,K,hx,hl=>by
  rw[List.length_cons] at hl;obtain⟨I,_,n,rfl,hn,h0⟩:=q32 (hx a (List.mem_cons_self ..));have m:=K.low (by omega) h0;obtain⟨B,y,u⟩:=K.ref h0 (by omega) I;obtain⟨P',G,E,F⟩:=qg7 r y (λx f=>by
   have h1:=hx x (List.mem_cons_of_mem _ f);rw[(u 0).ext x h1];exact h1) (by rw[List.length_cons];omega)
  refine⟨P',?_,E.perm (λb _ _=>?_),λl=>(u l).trans K.nonneg (F l)⟩
  ·show (if P.C.Y8 (n:Int)=0 then _ else none)=_;rw[if_pos B];exact G
  ·simp only[List.count_append,List.count_cons,List.cons_append];omega
theorem O7 {R:Int->Nd × Int}{l:Nat}{N:Nd}{M:List (List Qc)}(h:Yr R l N M)(m:∀x∈M.flatten,Ko x=none):N.named=N.kids.map (·.a)/\(∀x∈N.named,(R x).2=0)/\N.named.length<=M.length:=by
 cases l with
 |zero=>
  obtain⟨its,rfl,rfl⟩:=h;rw[Ig] at m;have e:(⟨0,its,[]⟩:Nd).named=[]:=by
   unfold Nd.named;rw[List.filterMap_eq_nil_iff.2 m];rfl
  rw[e];exact⟨rfl,λx f=>(by cases f),Nat.zero_le _⟩
 |succ l=>
  obtain⟨G,rfl,rfl,B⟩:=h;have e:(⟨((l+1:Nat):Int),[],G.map Qn⟩:Nd).named=(G.map Qn).map (·.a):=by unfold Nd.named;simp
  refine⟨e,λx f=>?_,by rw[e];simp⟩;rw[e] at f;obtain⟨y,E,rfl⟩:=List.mem_map.1 f;obtain⟨t,u,rfl⟩:=List.mem_map.1 E;exact (Fq (B t u).1).2.2
theorem qk5 {α:Type}{M:List (List α)}{i j:Nat}{x:α}(h:x∈((M.drop i).take j).flatten):x∈M.flatten:=by
 obtain⟨r,e,f⟩:=List.mem_flatten.1 h;exact List.mem_flatten.2 ⟨r,List.mem_of_mem_drop (List.mem_of_mem_take e),f⟩
def Zx (s:Qu)(i j:Nat):Nd:=Jd s.N.lvl [s.N.cut 0 i,s.N.cut j s.N.size]
structure Outside (R:Int->Nd × Int)(l:Nat)(N:Nd)(i j:Nat)(ML MR:List (List Qc)):Prop where
 left:Yr R l (N.cut 0 i) ML
 right:Yr R l (N.cut j N.size) MR
 lvl:N.lvl=(l:Int)
 li:ML.length=i
 size:N.size=j+MR.length
 ij:i<=j
theorem Outside.ext {R R':Int->Nd × Int}{l:Nat}{N:Nd}{i j:Nat}{ML MR:List (List Qc)}(h:Outside R l N i j ML MR)(e:Ext R R'):Outside R' l N i j ML MR:=⟨qe7 h.left e,qe7 h.right e,h.lvl,h.li,h.size,h.ij⟩
theorem qah {R:Int->Nd × Int}{l:Nat}{N:Nd}{M:List (List Qc)}(h:Yr R l N M){i j:Nat}(hi:i<=j)(m:j<=M.length):Outside R l N i j (M.take i) (M.drop j):=by
 have e:=q5l h;refine⟨?_,?_,q4s h,by rw[List.length_take];omega,by rw[e,List.length_drop];omega,hi⟩
 ·have:=q69 h 0 i;simpa using this
 ·have:=q69 h j N.size;rw[e] at this ⊢;have f:(M.drop j).take (M.length-j)=M.drop j:=List.take_of_length_le (by rw[List.length_drop];omega);rw[f] at this;exact this
theorem q94 {R:Int->Nd × Int}{l:Nat}{s:Qu}{i j:Nat}{m f:List (List Qc)}(h:Outside R l s.N i j m f):Yr R l (Zx s i j) (m++f):=by
 have h2:=q6u (R:=R) (l:=l) [(s.N.cut 0 i,m),(s.N.cut j s.N.size,f)] (λx e=>by
  rcases List.mem_cons.1 e with rfl|e
  ·exact h.left
  ·rcases List.mem_cons.1 e with rfl|e
   ·exact h.right
   ·cases e)
 unfold Zx;rw[h.lvl];simpa using h2
theorem qpo {R:Int->Nd × Int}{l:Nat}{s:Qu}{y u m:List (List Qc)}{e:Nd}{i j:Nat}(h:Outside R l s.N i j y u)(B:Yr R l e m):Yr R l (Ye s i j e) (y++(m++u)):=by
 have h2:=q6u (R:=R) (l:=l) [(s.N.cut 0 i,y),(e,m),(s.N.cut j s.N.size,u)] (λx f=>by
  rcases List.mem_cons.1 f with rfl|f
  ·exact h.left
  ·rcases List.mem_cons.1 f with rfl|f
   ·exact B
   ·rcases List.mem_cons.1 f with rfl|f
    ·exact h.right
    ·cases f)
 unfold Ye;rw[h.lvl];simpa using h2
theorem q8m (K:Keep D S0 C0 O H P){l:Nat}{s:Qu}{B y:List (List Qc)}{i j:Nat}(E:Outside (P.hide D O) l s.N i j B y)(f:∀x∈(B++y).flatten,Ko x=none)(m:s.shared=false->l=0->(s.N.cut i j).named=[])(J:B.length+y.length<=100)(M:H.length<=20000) :
  ∃P',P.Qx s i j=some P'/\Keep D S0 C0 O ((if s.shared=true then (Zx s i j).named else [])++H) P'/\∀l,Move l D O O P P' 0:=by
 unfold Pl.Qx;by_cases u:s.shared=true
 ·rw[if_pos u,if_pos u];obtain⟨_,G,I⟩:=O7 (q94 E) f;refine qg7 _ K G ?_;rw[List.length_append] at I;show H.length+(Zx s i j).named.length<=30000;omega
 ·rw[if_neg u,if_neg u];have e:=E.lvl;by_cases F:0<s.N.lvl
  ·rw[if_pos F];exact⟨P,rfl,K,λl=>Move.refl l D O P⟩
  ·rw[if_neg F,m (by cases e:s.shared with|true=>exact absurd e u|false=>rfl) (by omega)];exact⟨P,rfl,K,λl=>Move.refl l D O P⟩
def own (s:Qu):List Int:=if s.held=true then [] else [s.addr]
structure Zv (P:Pl)(D:DM)(O:List Int)(l:Int)(s:Qu):Prop where
 shared:s.shared=true->s.held=false->2<=P.C.get s.addr/\s.addr∉O/\(P.Qh D s.addr).lvl=l
 mine:s.shared=false->s.held=false/\s.addr∈O/\(P.Qh D s.addr).lvl=l
theorem Zv.above {l l':Int}{s:Qu}(h:Zv P D O l s){O':List Int}{P':Pl}(K:Keep D S0 C0 O H P)(ha:Bc l' D O O' P P')(hl:l'<l):Zv P' D O' l s:=by
 refine⟨λh1 h2=>?_,λh1=>?_⟩
 ·obtain⟨m,f,e⟩:=h.shared h1 h2;obtain⟨j1,j2,j3⟩:=ha s.addr (by omega) (by rw[e];exact hl);exact⟨by omega,λh=>f (j3.2 h),by rw[j2];exact e⟩
 ·obtain⟨m,f,e⟩:=h.mine h1;have u:=(K.opened _ f).2.1;obtain⟨j1,j2,j3⟩:=ha s.addr (by omega) (by rw[e];exact hl);exact⟨m,j3.1 f,by rw[j2];exact e⟩
def Dw (O:List Int)(s:Qu):List Int:=if s.shared=true then O else less1 O s.addr
theorem qck (K:Keep D S0 C0 O H P){l:Int}{s:Qu}(M:Zv P D O l s){X:List Int}(m:∀a:Nat,0<a->a<P.C.n->H.count (a:Int)=(own s++X).count (a:Int)) :
  ∃P',P.leave s=some P'/\Keep D S0 C0 (Dw O s) X P'/\Move l D O (Dw O s) P P' 0/\∀x,x≠s.addr->P'.C.get x=P.C.get x/\P'.Qh D x=P.Qh D x:=by
 unfold Pl.leave;by_cases u:s.held=true
 ·have f:s.shared=true:=by
   cases e:s.shared with
   |true=>rfl
   |false=>have:=(M.mine e).1;rw[this] at u;cases u
  rw[if_pos u];have e:Dw O s=O:=if_pos f;rw[e];have U:own s=[]:=if_pos u;rw[U] at m;exact⟨P,rfl,K.perm λa h1 h2=>(m a h1 h2).symm,Move.refl l D O P,λ_ _=>⟨rfl,rfl⟩⟩
 ·have R:s.held=false:=by cases e:s.held with|true=>exact absurd e u|false=>rfl
  rw[if_neg u];have U:own s=[s.addr]:=if_neg u;rw[U] at m;have other:∀c:Nat,∀x:Int,P.C.get (c:Int)≠0->x≠(c:Int)->(P.C.Qy (c:Int)).get x=P.C.get x/\Pl.Qh ⟨P.S,P.C.Qy (c:Int),P.L⟩ D x=P.Qh D x:=λc x h0 F=>by
   rw[(qe5 h0).2];exact qp9 F
  cases f:s.shared with
  |true=>
   obtain⟨Z,y,G⟩:=M.shared f R;obtain⟨c,W,E⟩:=Ae (C:=P.C) (a:=s.addr) (by omega);rw[W] at Z G m ⊢;obtain⟨I,B,J⟩:=K.Qy (H0:=X) Z m;have e:Dw O s=O:=if_pos f;rw[if_pos I,e];exact⟨_,rfl,B,J l (by omega),λx Y=>other c x (by omega) Y⟩
  |false=>
   obtain⟨_,y,G⟩:=M.mine f;have hg:=(K.opened _ y).2.1;obtain⟨c,W,E⟩:=Ae (C:=P.C) (a:=s.addr) (by omega);have e:Dw O s=less1 O s.addr:=if_neg (by rw[f];decide);rw[e];rw[W] at y G m hg ⊢;obtain⟨I,B,J⟩:=K.drop (H0:=X) y m;rw[if_pos I];exact⟨_,rfl,B,J l (by omega),λx Y=>other c x (by omega) Y⟩
end
theorem qai {Q:World->Prop}{N:Nd}{A B:Option Addr}{n c m d:Nat}(h:Jl Q N A n c B m d)(e:N.fit){j:Nat}(E:j<=N.size):j<=if N.lvl=0 then n else m:=by
 have y:=h.size;have f:=h.ln;have u:=h.lm;by_cases h0:N.lvl=0
 ·rw[if_pos h0];have:=e.1 h0;rw[this] at u;simp at u;omega
 ·rw[if_neg h0];have:=e.2 h0;rw[this] at f;simp at f;omega
theorem q7u {N:Nd}(h:N.fit)(i j:Nat):(N.cut i j).fit:=by
 unfold Nd.cut;by_cases h0:N.lvl=0
 ·rw[if_pos h0];exact⟨λ_=>h.1 h0,λhn=>absurd h0 hn⟩
 ·rw[if_neg h0];exact⟨λe=>absurd e h0,λ_=>h.2 h0⟩
theorem qtg {s:Qu}(h:s.N.fit)(i j:Nat):(Zx s i j).fit:=by
 unfold Zx Jd;constructor
 ·intro h0;have h0:s.N.lvl=0:=h0;have e:=λa b=>(q7u h a b).1 (by unfold Nd.cut;rw[if_pos h0];exact h0)
  simp[e]
 ·intro h0;have h0:¬s.N.lvl=0:=h0;have e:=λa b=>(q7u h a b).2 (by unfold Nd.cut;rw[if_neg h0];exact h0)
  simp[e]
theorem q2h (N:Nd)(i j:Nat):(N.cut i j).items.length<=N.items.length/\(N.cut i j).kids.length<=N.kids.length:=by
 unfold Nd.cut;split
 ·refine⟨?_,Nat.le_refl _⟩;show ((N.items.drop i).take (j-i)).length<=_;rw[List.length_take,List.length_drop];omega
 ·refine⟨Nat.le_refl _,?_⟩;show ((N.kids.drop i).take (j-i)).length<=_;rw[List.length_take,List.length_drop];omega
section
variable {b:Nat}{w w':World}{d p:Nat}{S0 S T:Nat->Prop}{D:DM}{P P':Pl}
theorem q8n (H:Qi b w d p S0 S T D P)(hb:1<b)(ht:Tab w)(s:Qu)(G:s.N.fit)(A:Option Addr)(n c:Nat)(B:Option Addr)(m I:Nat)(Z:Jl (Turn S w) s.N A n c B m I)(i j:Nat)(hi:i<=j)(hj:j<=s.N.size)(a6:s.N.size<=20)(Y:P.Qx s i j=some P') :
  Calls Tryz.prog 105 #[tv p,Vh s A n c B m I,.int .i64 (i:Int),.int .i64 (j:Int)] w λe w'=>e=.returned (.int .i64 0)/\Qi b w' d p S0 S T D P'/\Turn S w w'/\Tab w':=by
 have hS:=H.low;have hn:=Z.hn;have hm:=Z.hm;have y:=Z.size;have U:=qai Z G hj;have a7:=qtg G i j;obtain⟨N,ad,nx,hd,sh⟩:=s;dsimp only at G Z hj a6 hn hm y U;have T1:RB ((w.alloc (.cells #[.pointer (some ⟨p,0,none⟩)] 122)).alloc (.cells (Ji N.lvl A n c B m I ad (nx:Int) hd sh).toArray 129)) w.1.size [.pointer (some ⟨p,0,none⟩)]:=(RB.new w [.pointer (some ⟨p,0,none⟩)] 122).below (Qm) (by simp);have E:RB ((w.alloc (.cells #[.pointer (some ⟨p,0,none⟩)] 122)).alloc (.cells (Ji N.lvl A n c B m I ad (nx:Int) hd sh).toArray 129)) (w.1.size+1) (Ji N.lvl A n c B m I ad (nx:Int) hd sh):=by
  have:=RB.new (w.alloc (.cells #[.pointer (some ⟨p,0,none⟩)] 122)) (Ji N.lvl A n c B m I ad (nx:Int) hd sh) 129;rwa [World.size_alloc] at this
 have J:Below w.1.size w ((w.alloc (.cells #[.pointer (some ⟨p,0,none⟩)] 122)).alloc (.cells (Ji N.lvl A n c B m I ad (nx:Int) hd sh).toArray 129)):=(Qm).alloc (by simp) _;unfold Pl.Qx at Y;dsimp only at Y;unfold tv Vh;dsimp only;unfold Ji at T1 E J
 cases sh with
 |true=>
  rw[if_pos rfl] at Y;have HP:=Lib.hid Y;clear Y;obtain⟨A1,n1,c1,B1,m1,d1,e1,q1,l1⟩:=q7t Z (i:=0) (j:=i) (Nat.zero_le _) (by omega);obtain⟨A2,n2,c2,B2,m2,d2,e2,q2,l2⟩:=q7t Z (i:=j) (j:=N.size) (by omega) (qai Z G (Nat.le_refl _));have f:=λu=>q3o N.lvl A n c B m I 0 i (Nat.zero_le _) (by omega) ⟨hn.2.1,hn.2.2⟩ ⟨hm.2.1,hm.2.2⟩ u
  have a1:=λu=>q3o N.lvl A n c B m I j N.size (by omega) (qai Z G (Nat.le_refl _)) ⟨hn.2.1,hn.2.2⟩ ⟨hm.2.1,hm.2.2⟩ u
  have HS:=λu=>q29 N.lvl A n c B m I (by omega) (by omega) u
  rw[e1] at f;rw[show ((0:Nat):Int)=0 from rfl] at f;rw[e2] at a1;rw[<-y] at HS;unfold Xy at f a1 HS;have f:=Lib.hid f;have a1:=Lib.hid a1;have HS:=Lib.hid HS;have b4:n+m<=20:=by omega
  clear e1 e2 U y;go_enter Tryz.func105,Tryz.ntmps105
  have x6:=E.cell 6 rfl;go_wp2_with fail
  generalize ((w.alloc (.cells #[.pointer (some ⟨p,0,none⟩)] 122)).alloc (.cells #[.int .i64 N.lvl,.slice A n c,.slice B m I,.int .i64 ad,.int .i64 (nx:Int),.bool hd,.bool true] 129))=R at T1 E J ⊢;have z1:=E.lt;have z0:=J.size;have hF:∀u,Below R.1.size R u->u.cell? ⟨w.1.size,0,none⟩=some (.pointer (some ⟨p,0,none⟩))/\u.cell? ⟨w.1.size+1,0,none⟩=some (.int .i64 N.lvl)/\u.cell? ⟨w.1.size+1,1,none⟩=some (.slice A n c)/\u.cell? ⟨w.1.size+1,2,none⟩=some (.slice B m I):=λu K=>
   ⟨(T1.below K T1.lt).cell 0 rfl,(E.below K E.lt).cell 0 rfl,(E.below K E.lt).cell 1 rfl,(E.below K E.lt).cell 2 rfl⟩
  have hT:∀u,Below R.1.size R u->∀v,Turn S u v->v.cell? ⟨w.1.size,0,none⟩=some (.pointer (some ⟨p,0,none⟩))/\v.cell? ⟨w.1.size+1,0,none⟩=some (.int .i64 N.lvl)/\v.cell? ⟨w.1.size+1,1,none⟩=some (.slice A n c)/\v.cell? ⟨w.1.size+1,2,none⟩=some (.slice B m I):=λu K v hv=>
   have t1:=(T1.below K T1.lt).turned hv (λh=>by have:=hS _ h;omega);have x1:=(E.below K E.lt).turned hv (λh=>by have:=hS _ h;omega);⟨t1.cell 0 rfl,x1.cell 0 rfl,x1.cell 1 rfl,x1.cell 2 rfl⟩
  have F:Below R.1.size R R.drew:=(Below.refl _ _).drew;have b3:Zx ⟨N,ad,nx,hd,true⟩ i j=Jd N.lvl [N.cut 0 i,N.cut j N.size]:=rfl;have Hj:=(λ(u:World) (K:Below R.1.size R u) (X:Option Addr) (W:Ac (Turn S w) u X 2 2 [N.cut 0 i,N.cut j N.size])=>q47 (S:=S) (w:=u) (λk hk=>by have:=hS k hk;have:=K.size;omega) [N.cut 0 i,N.cut j N.size] N.lvl l1 X 2 2 (by
    obtain⟨b0,r1,r2,r3⟩:=W;exact⟨b0,r1,r2,λj r M hr hM=>by
     obtain⟨A',n',c',B',m',d',e',hq⟩:=r3 j r M hr hM;exact⟨A',n',c',B',m',d',e',hq.mono λv hv=>(Qv (S:=S) (J.trans (K.mono J.size))).trans hv λk hk=>.inl hk⟩⟩) (by omega) (by omega)
    (by have h1:=q2h N 0 i;have h2:=q2h N j N.size;have h3:=Z.ln;simp only[List.flatMap_cons,List.flatMap_nil,List.length_append,List.length_nil];omega)
    (by have h1:=q2h N 0 i;have h2:=q2h N j N.size;have h3:=Z.lm;simp only[List.flatMap_cons,List.flatMap_nil,List.length_append,List.length_nil];omega))
  unfold Xy at Hj;replace Hj:=Lib.hid Hj;have Hr:∀(u:World) (_:Below R.1.size R u) (A':Option Addr) (n' c':Nat) (B':Option Addr) (m' d':Nat) (_:Jl (Turn S u) (Jd N.lvl [N.cut 0 i,N.cut j N.size]) A' n' c' B' m' d'),Calls Tryz.prog 137 #[.agg #[.pointer (some ⟨p,0,none⟩)],.agg #[.int .i64 N.lvl,.slice A' n' c',.slice B' m' d']] u λe w'=>e=.returned (.int .i64 0)/\Qi b w' d p S0 S T D P'/\Turn S u w'/\Tab w':=
   (λu K A' n' c' B' m' d' hq=>qpk (H.below (J.trans (K.mono J.size))) hb (ht.below (J.trans (K.mono J.size)) ht.1) (Zx ⟨N,ad,nx,hd,true⟩ i j) a7 A' n' c' B' m' d' hq HP.out)
  replace Hr:=Lib.hid Hr;clear x6;have W:=Lib.hid (λu=>qi5 (Q:=Turn S w) u 127 q1 q2);rw[l1,l2] at W;go_region_held3 (λw'=>w'.cell? ⟨w.1.size,0,none⟩=some (.pointer (some ⟨p,0,none⟩))/\w'.cell? ⟨w.1.size+1,0,none⟩=some (.int .i64 N.lvl)/\w'.cell? ⟨w.1.size+1,1,none⟩=some (.slice A n c)/\w'.cell? ⟨w.1.size+1,2,none⟩=some (.slice B m I))
   (first|(with_reducible assumption)|(with_reducible exact hF _ F)|(with_reducible exact hF _ (F.alloc F.size _))|(with_reducible exact b2.out))
   (first
    |(go_at_call 107;(with_reducible refine (f.out _).mono ?_);rintro e wX ⟨rfl,W⟩;replace F:=F.trans (W.mono F.size);clear W)
    |(go_at_call 107;(with_reducible refine (a1.out _).mono ?_);rintro e wX ⟨rfl,W⟩;replace F:=F.trans (W.mono F.size);clear W)
    |(go_at_call 108;(with_reducible refine (HS.out _).mono ?_);rintro e wX ⟨rfl,W⟩;replace F:=F.trans (W.mono F.size);clear W)
    |(go_at_call 106;refine (Hj.out _ (F.alloc F.size _) _ (W.out _)).mono ?_;rintro e wX ⟨A3,n3,c3,B3,m3,d3,rfl,a8,a2⟩;replace F:=(F.alloc F.size _).trans (a2.mono (F.alloc F.size _).size);clear a2)
    |(go_at_call 137;refine (Hr.out _ F _ _ _ _ _ _ a8).mono ?_;rintro e w5 ⟨rfl,H5,X5,t5⟩;have XX:Turn S w w5:=(Qv (S:=S) (J.trans (F.mono J.size))).trans X5 λk hk=>.inl hk;have b2:=Lib.hid (hT _ F _ X5);replace H5:=Lib.hid H5)
    |fail)
  all_goals (go_wp2_with fail;go_ret;exact⟨rfl,H5.out,XX,t5⟩)
 |false=>
  rw[if_neg Bool.false_ne_true] at Y;by_cases hl:0<N.lvl
  ·rw[if_pos hl] at Y;obtain rfl:=Option.some.inj Y;clear Y;have H1:=H.below J;have t1:=ht.below J ht.1;have x6:=E.cell 6 rfl;have x0:=E.cell 0 rfl;clear U y;go_enter Tryz.func105,Tryz.ntmps105
   go_wp2;go_ret;exact⟨rfl,H1,Qv J,t1⟩
  ·rw[if_neg hl] at Y;have HP:=Lib.hid Y;clear Y;obtain⟨A1,n1,c1,B1,m1,d1,e1,q1,l1⟩:=q7t Z hi U;have f:=λu=>q3o N.lvl A n c B m I i j hi U ⟨hn.2.1,hn.2.2⟩ ⟨hm.2.1,hm.2.2⟩ u
   rw[e1] at f;unfold Xy at f;replace f:=Lib.hid f;have Hr:∀(u:World) (_:Below w.1.size w u),Calls Tryz.prog 138 #[.agg #[.pointer (some ⟨p,0,none⟩)],.agg #[.int .i64 N.lvl,.slice A1 n1 c1,.slice B1 m1 d1]] u λe w'=>e=.returned (.int .i64 0)/\Qi b w' d p S0 S T D P'/\Turn S u w'/\Tab w':=λu K=>by
    have:=qi2 (H.below K) hb (ht.below K ht.1) (N.cut i j) (q7u G i j) A1 n1 c1 B1 m1 d1 (q1.mono λv hv=>(Qv (S:=S) K).trans hv λk hk=>.inl hk) HP.out;rw[l1] at this;exact this
   replace Hr:=Lib.hid Hr;have x6:=E.cell 6 rfl;have x0:=E.cell 0 rfl;clear e1 U y;go_enter Tryz.func105,Tryz.ntmps105
   go_wp2_with fail
   generalize ((w.alloc (.cells #[.pointer (some ⟨p,0,none⟩)] 122)).alloc (.cells #[.int .i64 N.lvl,.slice A n c,.slice B m I,.int .i64 ad,.int .i64 (nx:Int),.bool hd,.bool false] 129))=R at T1 E J x6 x0 ⊢;have g0:∀u:Grown R,u.to.cell? ⟨w.1.size,0,none⟩=some (.pointer (some ⟨p,0,none⟩)):=Grown.cell (T1.cell 0 rfl) T1.lt;have g1:∀u:Grown R,u.to.cell? ⟨w.1.size+1,0,none⟩=some (.int .i64 N.lvl):=Grown.cell (E.cell 0 rfl) E.lt;have g2:∀u:Grown R,u.to.cell? ⟨w.1.size+1,1,none⟩=some (.slice A n c):=Grown.cell (E.cell 1 rfl) E.lt;have g3:∀u:Grown R,u.to.cell? ⟨w.1.size+1,2,none⟩=some (.slice B m I):=Grown.cell (E.cell 2 rfl) E.lt;refine q2c 6 (by kernel_rfl) (by kernel_rfl) ?_;simp only[List.take_succ_cons,List.take_zero,List.drop_succ_cons,List.drop_zero];repeat (go_big_quiet_step (first|(go_at_call 107;exact Calls.grown (f.out _))|fail))
   refine wpQuiet_nil ?_;rintro _ ⟨u,rfl⟩;have BB:=J.trans (u.ok.mono J.size);go_wp2_with fail
   refine (Hr.out _ BB).mono ?_;rintro e w5 ⟨rfl,H5,X5,t5⟩;go_wp2;go_ret;exact⟨rfl,H5,(Qv (S:=S) BB).trans X5 λk hk=>.inl hk,t5⟩
end
section
attribute [local go_sem ↓] qe9
section
variable {b:Nat}{w w':World}{d p:Nat}{S0 S T:Nat->Prop}{D:DM}{P P':Pl}
theorem qg8 (H:Qi b w d p S0 S T D P)(hb:1<b)(ht:Tab w)(a6:∀a b,P.L a=some b->b.kindOk)(s:Qu)(A:Option Addr)(n c:Nat)(B:Option Addr)(m I:Nat)(hB:Rw (Turn S w) B m I s.N.kids)(hl:1<=s.N.lvl/\s.N.lvl<8)(i:Nat)(f:P.Wn D s i=true)(G:(P.Jj D s i).N.may=true)(hP:P.Qx (P.Jj D s i) 0 0=some P') :
  Calls Tryz.prog 142 #[tv p,Vh s A n c B m I,.int .i64 (i:Int)] w λe w'=>∃A n c B m I,e=.returned (.tuple #[Vh (P.Jj D s i) A n c B m I,.int .i64 0])/\Jl (Turn (λk=>k<w.1.size) w') (P.Jj D s i).N A n c B m I/\Qi b w' d p S0 S T D P'/\Turn S w w'/\Tab w':=by
 have hS:=H.low;have Hk:=λ(u:World) (hu:Below w.1.size w u)=>qk4 (H.below hu) (ht.below hu ht.1) a6 s A n c B m I (λv hv=>hB v ((Qv (S:=S) hu).trans hv λk f=>.inl f)) hl i f
 obtain⟨o,ho⟩:∃o,P.Jj D s i=o:=⟨_,rfl⟩;rw[ho] at Hk G hP ⊢;clear f ho hl hB;obtain⟨N,X,W,hd,R⟩:=s;obtain⟨M,oa,ox,oh,os⟩:=o;dsimp only at G;have J:=Nj G;have b7:M.size<=12:=by
  unfold Nd.size;by_cases h0:M.lvl=0
  ·obtain⟨e1,_,_,h6⟩:=q1r G h0;have h7:=J.1 h0;rw[h7];simp;omega
  ·have h6:=(Py G h0).2.2.2.2.1;have h7:=J.2 h0;rw[h7];simp;omega
 unfold tv Vh at Hk;dsimp only at Hk;have T1:RB (((w.alloc (.cells #[.pointer (some ⟨p,0,none⟩)] 122)).alloc (.cells (Ji N.lvl A n c B m I X (W:Int) hd R).toArray 129)).alloc Ud) w.1.size [.pointer (some ⟨p,0,none⟩)]:=(RB.new w [.pointer (some ⟨p,0,none⟩)] 122).below ((Qm).alloc (by simp) _) (by simp);have X1:RB (((w.alloc (.cells #[.pointer (some ⟨p,0,none⟩)] 122)).alloc (.cells (Ji N.lvl A n c B m I X (W:Int) hd R).toArray 129)).alloc Ud) (w.1.size+1) (Ji N.lvl A n c B m I X (W:Int) hd R):=by
  have:=RB.new (w.alloc (.cells #[.pointer (some ⟨p,0,none⟩)] 122)) (Ji N.lvl A n c B m I X (W:Int) hd R) 129;rw[World.size_alloc] at this;exact this.below (Qm) (by simp)
 have R1:RB (((w.alloc (.cells #[.pointer (some ⟨p,0,none⟩)] 122)).alloc (.cells (Ji N.lvl A n c B m I X (W:Int) hd R).toArray 129)).alloc Ud) (w.1.size+2) (Ji 0 none 0 0 none 0 0 0 0 false false):=by
  have:=Ih ((w.alloc (.cells #[.pointer (some ⟨p,0,none⟩)] 122)).alloc (.cells (Ji N.lvl A n c B m I X (W:Int) hd R).toArray 129));rwa [World.size_alloc,World.size_alloc] at this
 have b1:Below w.1.size w (((w.alloc (.cells #[.pointer (some ⟨p,0,none⟩)] 122)).alloc (.cells (Ji N.lvl A n c B m I X (W:Int) hd R).toArray 129)).alloc Ud):=((Qm).alloc (by simp) _).alloc (by simp;omega) _;replace Hk:=Lib.hid Hk;have HP:=Lib.hid hP;clear hP;have y0:=T1.cell 0 rfl;have y:∀(j:Nat) v,(Ji N.lvl A n c B m I X (W:Int) hd R)[j]?=some v->(((w.alloc (.cells #[.pointer (some ⟨p,0,none⟩)] 122)).alloc (.cells (Ji N.lvl A n c B m I X (W:Int) hd R).toArray 129)).alloc Ud).cell? ⟨w.1.size+1,j,none⟩=some v:=λj v hv=>X1.cell j hv
 have x0:=y 0 _ rfl;have x1:=y 1 _ rfl;have x2:=y 2 _ rfl;have x3:=y 3 _ rfl;have x4:=y 4 _ rfl;have x5:=y 5 _ rfl;have x6:=y 6 _ rfl;clear y;unfold tv Vh;dsimp only;unfold Ji at T1 X1 R1 b1 y0 x0 x1 x2 x3 x4 x5 x6;go_enter Tryz.func142,Tryz.ntmps142
 go_wp2_with fail
 generalize (((w.alloc (.cells #[.pointer (some ⟨p,0,none⟩)] 122)).alloc (.cells #[.int .i64 N.lvl,.slice A n c,.slice B m I,.int .i64 X,.int .i64 (W:Int),.bool hd,.bool R] 129)).alloc Ud)=K at T1 X1 R1 b1 y0 x0 x1 x2 x3 x4 x5 x6 ⊢;refine (Hk.out K b1).mono ?_;rintro e E ⟨A3,n3,c3,Y,m3,d3,rfl,a2,b2⟩;have z1:=R1.lt;have z0:=b1.size;have z2:=b2.size;have T2:=T1.below b2 T1.lt;have R2:=R1.below b2 R1.lt;clear y0 x0 x1 x2 x3 x4 x5 x6;go_wp2_with (first
  |(refine Oe rfl (.tmp 8) _ rfl E.1.size rfl M.lvl A3 n3 c3 Y m3 d3 oa (ox:Int) oh os rfl (Ih E) rfl ?_;intro U Q3 TQ)
  |fail)
 have bz:Below E.1.size E (E.alloc Ud):=Qm;have b3:Below E.1.size E U:=bz.trans (TQ.below (λk f=>by have:k=E.1.size:=f;omega) bz.size);have T3:=T2.below b3 T2.lt;have R3:=R2.below b3 R2.lt;have BB:=b1.trans ((b2.trans (b3.mono b2.size)).mono b1.size);clear T1 X1 R1 T2 R2 TQ bz;have z3:=b3.size;have zQ:=Q3.lt;have F:=λ(u:World) (hu:Qi b u d p S0 S (grow T w K) D P) (a7:Tab u) (hx:Turn (λk=>k<K.1.size) E u)=>q8n hu hb a7 ⟨M,oa,ox,oh,os⟩ J A3 n3 c3 Y m3 d3 (a2.mono λv hv=>hx.trans hv λk f=>.inl (by have:=hS k f;show k<K.1.size;omega)) 0 0 (Nat.le_refl _) (Nat.zero_le _) (by show M.size<=20;omega) HP.out
 unfold tv Vh at F;dsimp only at F;rw[show ((0:Nat):Int)=0 from rfl] at F;replace F:=Lib.hid F;have bD:Below U.1.size U U.drew:=(Below.refl _ _).drew;have HD:Qi b U.drew d p S0 S (grow T w K) D P:=(H.more b1).below ((b2.trans (b3.mono b2.size)).trans (bD.mono (by omega)));have tD:Tab U.drew:=ht.below (BB.trans (bD.mono BB.size)) ht.1;have cells:∀u,Turn (λk=>S k\/k=w.1.size+2) U u->u.cell? ⟨w.1.size,0,none⟩=some (.pointer (some ⟨p,0,none⟩))/\u.cell? ⟨E.1.size,0,none⟩=some (.int .i64 M.lvl)/\u.cell? ⟨E.1.size,1,none⟩=some (.slice A3 n3 c3)/\u.cell? ⟨E.1.size,2,none⟩=some (.slice Y m3 d3)/\u.cell? ⟨E.1.size,3,none⟩=some (.int .i64 oa)/\u.cell? ⟨E.1.size,4,none⟩=some (.int .i64 (ox:Int))/\u.cell? ⟨E.1.size,5,none⟩=some (.bool oh)/\u.cell? ⟨E.1.size,6,none⟩=some (.bool os):=λu hu=>
  have t1:=T3.turned hu (λh=>h.elim (λh=>by have:=hS _ h;omega) λh=>by omega);have q1:=Q3.turned hu (λh=>h.elim (λh=>by have:=hS _ h;omega) λh=>by omega);⟨t1.cell 0 rfl,q1.cell 0 rfl,q1.cell 1 rfl,q1.cell 2 rfl,q1.cell 3 rfl,q1.cell 4 rfl,q1.cell 5 rfl,q1.cell 6 rfl⟩
 have c1:=cells U.drew (Qv bD);go_region_held3 (λu=>u.cell? ⟨w.1.size,0,none⟩=some (.pointer (some ⟨p,0,none⟩))/\u.cell? ⟨E.1.size,0,none⟩=some (.int .i64 M.lvl)/\u.cell? ⟨E.1.size,1,none⟩=some (.slice A3 n3 c3)/\u.cell? ⟨E.1.size,2,none⟩=some (.slice Y m3 d3)/\u.cell? ⟨E.1.size,3,none⟩=some (.int .i64 oa)/\u.cell? ⟨E.1.size,4,none⟩=some (.int .i64 (ox:Int))/\u.cell? ⟨E.1.size,5,none⟩=some (.bool oh)/\u.cell? ⟨E.1.size,6,none⟩=some (.bool os))
  (first|(with_reducible assumption)|(with_reducible exact a8.out)|(with_reducible exact b0.out))
  (first
   |(go_at_call 105;(with_reducible refine (F.out U.drew HD tD ((Qv (S:=λk=>k<K.1.size) b3).trans (Qv (S:=λk=>k<K.1.size) bD) λk f=>.inl f)).mono ?_);rintro e w5 ⟨rfl,H5,X5,t5⟩;have XX:Turn S U w5:=(Qv (S:=S) bD).trans X5 λk f=>.inl f;have a8:=Lib.hid (cells w5 (XX.mono λk f=>.inl f));have T6:Turn (λk=>k=w.1.size+2) w5 (w5.setCells (w.1.size+2) 0 (Ji M.lvl A3 n3 c3 Y m3 d3 oa (ox:Int) oh os)):=Us (S:=λk=>k=w.1.size+2) rfl _ 0 w5;have b0:=Lib.hid (cells _ ((XX.mono (S':=λk=>S k\/k=w.1.size+2) λk f=>.inl f).trans T6 λk f=>.inl (.inr f)));replace H5:=Lib.hid H5;have R5:=R3.turned XX (λh=>by have:=hS _ h;omega);have b6:=qi3 R5 rfl M.lvl A3 n3 c3 Y m3 d3 oa (ox:Int) oh os;have R6:=Lib.hid (R5.stored (Ji M.lvl A3 n3 c3 Y m3 d3 oa (ox:Int) oh os) rfl))
   |fail)
 go_wp2_with fail
 have b5:=X5.size;refine bodyPost_ret (q16 Tryz.results142 rfl (q5m R6.out)) rfl ?_;have b4:∀k,S k->k<K.1.size:=λk f=>by have:=hS k f;omega
 have zX:=XX.size;refine⟨A3,n3,c3,Y,m3,d3,rfl,qeb a2 (((Qv (S:=λk=>k<K.1.size) b3).trans XX λk f=>.inl (b4 k f)).trans T6 λk f=>.inl (by have:k=w.1.size+2:=f;show k<K.1.size;omega)) z0,?_,?_,?_⟩
 ·have Z:=H.sub;have a1:=H.Cj;have h2:grow T w K (w.1.size+2):=⟨.inr (by omega),by omega⟩;have Ho:=H5.out.own T6 (λk f=>by have:k=w.1.size+2:=f;rw[this];exact h2) (λk f h=>by have:k=w.1.size+2:=f;have:=(H.tight k (Z k h)).2;omega) (λk f h=>by have:k=w.1.size+2:=f;have:=hS k h;omega);exact Ho.less (λk f=>⟨.inl f,by have:=(H.tight k f).2;omega⟩) Z a1
 ·exact ((Qv (S:=S) BB).trans XX λk f=>.inl f).trans T6 λk f=>.inr (by have:k=w.1.size+2:=f;omega)
 ·exact t5.turned T6 (λh=>by have h:1=w.1.size+2:=h;have:=ht.1;omega)
end
end
theorem TBn:Em Tryz.prog 209 127 3 56 (.agg #[.int .i64 0,.slice none 0 0,.slice none 0 0]):=⟨Tryz.underlying209,by kernel_rfl,rfl,by omega⟩
def Gh (Q:World->Prop)(w:World)(base:Nat)(A:Option Addr)(n c:Nat)(Ns:List Nd):Prop:=
 ∃e,Qs w base 127 3 A n c e/\e.length=Ns.length/\∀(j:Nat) r N,e[j]?=some r->Ns[j]?=some N->∃A n c B m d,r=Vg N.lvl A n c B m d/\Jl Q N A n c B m d
section
variable {Q:World->Prop}{w w':World}{base n c:Nat}{A:Option Addr}{Ns:List Nd}
theorem qth (Q:World->Prop)(w:World)(base:Nat):Gh Q w base none 0 0 []:=⟨[],q10 _ _ _ _,rfl,λj r x e=>by simp at e⟩
theorem Gh.below (h:Gh Q w base A n c Ns)(hb:Below w.1.size w w'):Gh Q w' base A n c Ns:=by
 obtain⟨e,h1,h2⟩:=h;exact⟨e,h1.below hb,h2⟩
theorem Gh.bnl (h:Gh Q w base A n c Ns):Ac Q w A n c Ns:=by
 obtain⟨e,h1,h2⟩:=h;exact⟨e,h1.Vs (by omega),h2⟩
theorem Gh.Qa (h:Gh Q w base A n c Ns):∀k,q01 A=some k->base<=k/\k<w.1.size:=by
 obtain⟨e,h1,_⟩:=h;exact h1.Qa
theorem qec (ty:TypeId)(G:Gh Q w base A n c Ns){B:Option Addr}{d:Nat}{N:Nd}{K:Option Addr}{W c1:Nat}{M:Option Addr}{R U:Nat}
  (e:Jf w 3 B 1 d [Vg N.lvl K W c1 M R U]) (hq:Jl Q N K W c1 M R U) (hn:n<=1000) (f:base<=w.1.size) :
  ∃J I w',(Builtin.append_ #[209,209] ty #[.slice A n c,.slice B 1 d]).run Tryz.prog w=.ok (.slice J (n+1) I) w'/\Gh Q w' base J (n+1) I (Ns++[N])/\Below base w w':=by
 obtain⟨m,h1,h2,h3⟩:=G;obtain⟨J,I,w',E,F,X⟩:=q8i (P:=Tryz.prog) w TBn ty base A n c m h1 B 1 d _ e (by omega) (qsm _ _ _ _ _ _ _) (by omega) (by omega) f;refine⟨J,I,w',E,⟨_,F,by simp[h2],λj Y x e y=>?_⟩,X⟩;by_cases Z:j<m.length
 ·rw[List.getElem?_append_left Z] at e;rw[List.getElem?_append_left (by omega)] at y;exact h3 j Y x e y
 ·rw[List.getElem?_append_right (by omega)] at e y;have u:j-m.length=0:=by
   have:=(List.getElem?_eq_some_iff.1 e).1;simp at this;omega
  rw[u] at e;rw[<-h2,u] at y;obtain rfl:=Option.some.inj e;obtain rfl:=Option.some.inj y;exact⟨_,_,_,_,_,_,rfl,hq⟩
theorem qbq {o:Oper}{a:Act}{K:Act->World->Prop}{Q2:Exit->Act->World->Prop}(M x:Operand)
  (Z:o.op=.call { callee:=.builtin .append,args:=#[M,x],argTypes:=#[209,209] })
  (W:a.eval M=.slice A n c) (f:Gh Q w base A n c Ns) {B:Option Addr} {d:Nat} (U:a.eval x=.slice B 1 d) {N:Nd} {E:Option Addr} {F c1:Nat} {J:Option Addr} {G I:Nat}
  (R:Jf w 3 B 1 d [Vg N.lvl E F c1 J G I]) (Y:Jl Q N E F c1 J G I) (hn:n<=1000) (e:base<=w.1.size)
  (h:∀u y w',Gh Q w' base u (n+1) y (Ns++[N])->Below base w w'->K (a.put o.dst (.slice u (n+1) y)) w') :
  Oper.wp Tryz.prog o a w K Q2:=by
 obtain⟨u,y,w',m,h2,X⟩:=qec (ty:=o.type) f R Y hn e;unfold Oper.wp execOp;simp only[Z,resolve,invoke,builtin,Sem.run_bind,Sem.run_pure,Result.andThen_ok,List.map_toArray,List.map_cons,List.map_nil,W,U,m];exact h u y w' h2 X
end
theorem qwi (w:World)(l:Int)(A:Option Addr)(n c:Nat)(B:Option Addr)(m d:Nat):Jf (w.alloc (.cells #[.int .i64 l,.slice A n c,.slice B m d] 127)) 3 (some ⟨w.1.size,0,none⟩) 1 1 [Vg l A n c B m d]:=(q1q w 127 3 (Vg l A n c B m d) _ rfl rfl).Vs (by omega)
theorem qi6 {N:Nd}{j:Nat}(h:j<parts N):(pieces N).take (j+1)=(pieces N).take j++[N.cut (N.size*j / parts N) (N.size*(j+1) / parts N)]:=by
 have e:(pieces N).length=parts N:=by unfold pieces;simp
 rw[List.take_succ_eq_append_getElem (by omega)];congr 2
 unfold pieces;simp
theorem qi7 {Q:World->Prop}{N:Nd}{A B:Option Addr}{n c m d:Nat}(hB:Jl Q N A n c B m d)(a7:N.fit)(d6:N.size<=60)(w:World) :
  Calls Tryz.prog 143 #[Xy N.lvl A n c B m d] w λe w'=>∃X k kc,e=.returned (.slice X k kc)/\Gh Q w' w.1.size X k kc (pieces N)/\Below w.1.size w w':=by
 have G:=hB.size;have hn:=hB.hn;have hm:=hB.hm;obtain⟨z,hz⟩:∃z,N.size=z:=⟨_,rfl⟩;obtain⟨P,hP⟩:∃P,parts N=P:=⟨_,rfl⟩;obtain⟨f,U⟩:∃f,Qq N.lvl=f:=⟨_,rfl⟩;have d3:6<=f/\f<=12:=by rw[<-U];unfold Qq;split<;>omega
 have Y:(z+f-1) / f=P:=by rw[<-hP,<-hz,<-U];rfl
 have c8:P<=100:=by rw[<-Y];exact Nat.le_trans (Nat.div_le_self _ _) (by omega)
 have N1:NB (w.alloc (.cells #[.int .i64 N.lvl,.slice A n c,.slice B m d] 127)) w.1.size N.lvl A n c B m d:=NB.new w _ _ _ _ _ _ _ _;have b1:Below w.1.size w (w.alloc (.cells #[.int .i64 N.lvl,.slice A n c,.slice B m d] 127)):=Qm;have HL:=λu=>q3d N.lvl A n c B m d u
 have HS:=λu=>q29 N.lvl A n c B m d (by omega) (by omega) u
 rw[U] at HL;rw[<-G,hz] at HS;have c0:=N1.c0;have c1:=N1.c1;have c2:=N1.c2;unfold Xy at HL HS ⊢;replace HL:=Lib.hid HL;replace HS:=Lib.hid HS;have e6:IntKind.i64.wrap ((z:Int)+(f:Int))=((z+f:Nat):Int):=by rw[show (z:Int)+(f:Int)=((z+f:Nat):Int) by omega];exact IntWalk.i64_in _ (by omega)
 have d7:IntKind.i64.wrap (((z+f:Nat):Int)-1)=((z+f-1:Nat):Int):=by rw[show ((z+f:Nat):Int)-1=((z+f-1:Nat):Int) by omega];exact IntWalk.i64_in _ (by omega)
 have hq:((z:Int)+(f:Int)-1) / (f:Int)=(P:Int):=by
  rw[<-Y,show (z:Int)+(f:Int)-1=((z+f-1:Nat):Int) by omega];exact (Int.natCast_ediv _ _).symm
 have c9:((f:Int)==0)=false:=by simp;omega
 go_enter Tryz.func143,Tryz.ntmps143
 go_wp2_with fail
 generalize w.alloc (.cells #[.int .i64 N.lvl,.slice A n c,.slice B m d] 127)=w1 at N1 b1 c0 c1 c2 ⊢;refine (HL.out w1).mono ?_;rintro e w2 ⟨rfl,b2⟩;have N2:=N1.below b2 N1.lt;have c0:=N2.c0;have c1:=N2.c1;have c2:=N2.c2;go_wp2_with fail
 refine (HS.out w2).mono ?_;rintro e w3 ⟨rfl,b3⟩;have N3:=N2.below b3 N2.lt;have BB:=b1.trans ((b2.trans (b3.mono b2.size)).mono b1.size);have z1:=N3.lt;clear c0 c1 c2 N1 N2 b1 b2 b3;go_wp2_with fail
 simp only[hq];clear hq;go_loopw [6,21] (λl i wr=>∃(j:Nat) (X:Option Addr) (kc:Nat),j<=P/\i=.int .i64 (j:Int)/\l=.slice X j kc/\Gh Q wr (w.1.size+1) X j kc ((pieces N).take j)/\NB wr w.1.size N.lvl A n c B m d/\Below w.1.size w wr) (λ_ i _=>P-(intOf i).toNat)
 case atStart=>exact⟨0,none,0,Nat.zero_le _,rfl,rfl,qth _ _ _,N3,BB⟩
 case round=>
  obtain⟨j,X,kc,hj,rfl,rfl,own,NN,hb⟩:=hrel;have zN:=NN.lt;have zb:=hb.size;have Z:w.1.size+1<=wr.1.size:=zN;by_cases b9:j<P
  ·have HT:=Lib.hid (qi6 (N:=N) (j:=j) (by rw[hP];exact b9));obtain⟨lo,K⟩:∃lo,z*j / P=lo:=⟨_,rfl⟩;obtain⟨F,E⟩:∃F,z*(j+1) / P=F:=⟨_,rfl⟩;have a2:lo<=F:=by rw[<-K,<-E];exact Nat.div_le_div_right (Nat.mul_le_mul_left _ (by omega))
   have d9:F<=z:=by
    rw[<-E];exact Nat.le_trans (Nat.div_le_div_right (Nat.mul_le_mul_left z (show j+1<=P by omega))) (by rw[Nat.mul_div_cancel _ (by omega)];exact Nat.le_refl _)
   have a1:=qai hB a7 (j:=F) (by omega);obtain⟨A1,n1,c1,B1,m1,d1,e1,q1,l1⟩:=q7t hB a2 a1;have HC:=λu=>q3o N.lvl A n c B m d lo F a2 a1 ⟨hn.2.1,hn.2.2⟩ ⟨hm.2.1,hm.2.2⟩ u
   rw[e1] at HC;unfold Xy at HC;replace HC:=Lib.hid HC;have b4:z*j<=6000:=by have:=Nat.mul_le_mul (show z<=60 by omega) (show j<=100 by omega);omega
   have a8:z*(j+1)<=6060:=by have:=Nat.mul_le_mul (show z<=60 by omega) (show j+1<=101 by omega);omega
   have d0:((P:Int)==0)=false:=by simp;omega
   obtain⟨p1,R⟩:∃p1,z*j=p1:=⟨_,rfl⟩;obtain⟨p2,M⟩:∃p2,z*(j+1)=p2:=⟨_,rfl⟩;rw[R] at b4 K;rw[M] at a8 E;have v1:IntKind.i64.wrap ((z:Int)*(j:Int))=(p1:Int):=by rw[<-R,<-Int.natCast_mul];exact IntWalk.i64_in _ (by omega)
   have v2:IntKind.i64.wrap ((z:Int)*((j:Int)+1))=(p2:Int):=by rw[show (z:Int)*((j:Int)+1)=((z*(j+1):Nat):Int) by rw[Int.natCast_mul];rfl,M];exact IntWalk.i64_in _ (by omega)
   have v3:(p1:Int) / (P:Int)=(lo:Int):=by rw[<-K];exact (Int.natCast_ediv _ _).symm
   have v4:(p2:Int) / (P:Int)=(F:Int):=by rw[<-E];exact (Int.natCast_ediv _ _).symm
   have b8:lo<=60:=by omega
   have b0:F<=60:=by omega
   have v5:IntKind.i64.wrap (F:Int)=(F:Int):=IntWalk.i64_in _ (by omega);have v6:IntKind.i64.wrap (lo:Int)=(lo:Int):=IntWalk.i64_in _ (by omega);obtain⟨J,hJ⟩:∃J,j+1=J:=⟨_,rfl⟩;have e0:IntKind.i64.wrap ((j:Int)+1)=(J:Int):=by rw[<-hJ];exact IntWalk.i64_in _ (by omega)
   have e2:IntKind.i64.wrap ((z:Int)*(J:Int))=(p2:Int):=by rw[<-hJ];exact v2
   have e3:(p1:Int).tdiv (P:Int)=(lo:Int):=by rw[<-v3];exact Int.tdiv_eq_ediv_of_nonneg (by omega)
   have e4:(p2:Int).tdiv (P:Int)=(F:Int):=by rw[<-v4];exact Int.tdiv_eq_ediv_of_nonneg (by omega)
   replace hJ:=Lib.hid hJ;have b5:¬(P:Int)=0:=by omega
   have d4:¬P=0:=by omega
   have d5:decide ((P:Int)=0)=false:=decide_eq_false b5;have d2:z<=60:=by omega
   have b7:=Lib.hid (show (pieces N).take (j+1)=(pieces N).take j++[N.cut lo F] by rw[HT.out,hP,hz,R,M,K,E]);have a6:=Lib.hid (λ(u:World)=>(l1.symm▸qwi u N.lvl A1 n1 c1 B1 m1 d1:Jf (u.alloc (.cells #[.int .i64 N.lvl,.slice A1 n1 c1,.slice B1 m1 d1] 127)) 3 (some ⟨u.1.size,0,none⟩) 1 1 [Vg (N.cut lo F).lvl A1 n1 c1 B1 m1 d1]));clear e1 a1 hz hP G R M K E HT U Y l1;have cells:∀u,Below (w.1.size+1) wr u->u.cell? ⟨w.1.size,0,none⟩=some (.int .i64 N.lvl)/\u.cell? ⟨w.1.size,1,none⟩=some (.slice A n c)/\u.cell? ⟨w.1.size,2,none⟩=some (.slice B m d):=λu hu=>
    have N':=NN.below hu (by omega);⟨N'.c0,N'.c1,N'.c2⟩
   have y:Below wr.1.size wr wr.drew:=(Below.refl _ _).drew;go_wp2_with fail
   go_region_held3 (λu=>u.cell? ⟨w.1.size,0,none⟩=some (.int .i64 N.lvl)/\u.cell? ⟨w.1.size,1,none⟩=some (.slice A n c)/\u.cell? ⟨w.1.size,2,none⟩=some (.slice B m d))
    (first|(with_reducible assumption)|(with_reducible exact cells _ (y.mono Z))|(with_reducible exact cells _ ((y.alloc y.size _).mono Z))|(with_reducible exact b6.out))
    (first
     |(go_at_call 108;(with_reducible refine (HS.out _).mono ?_);rintro e wX ⟨rfl,hX⟩;replace y:=y.trans (hX.mono y.size);clear hX)
     |(go_at_call 107;(with_reducible refine (HC.out _).mono ?_);rintro e wX ⟨rfl,hX⟩;replace y:=y.trans (hX.mono y.size);clear hX)
     |(rw[if_pos (by rfl)];refine qbq (Q:=Q) (base:=w.1.size+1) (.tmp 24) (.tmp 40) (by rfl) (by rfl) (own.below (y.alloc y.size (.cells #[.int .i64 N.lvl,.slice A1 n1 c1,.slice B1 m1 d1] 127))) (by rfl) (a6.out _) q1 (by omega) (by have:=(y.alloc y.size (.cells #[.int .i64 N.lvl,.slice A1 n1 c1,.slice B1 m1 d1] 127)).size;omega) ?_;intro X' c6 w6 W I;have bA:=y.alloc y.size (.cells #[.int .i64 N.lvl,.slice A1 n1 c1,.slice B1 m1 d1] 127);have I:=(bA.mono Z).trans I;have b6:=Lib.hid (cells w6 I))
     |fail)
   all_goals (
    go_wp2_with fail
    rw[<-b7.out] at W;exact⟨⟨j+1,X',c6,by omega,by rw[<-hJ.out],rfl,W,NN.below I (by omega),hb.trans (I.mono (by omega))⟩,by simp[intOf];have:=hJ.out;omega⟩)
  ·have e5:P<=j:=by omega
   have d8:¬(j:Int)<(P:Int):=by omega
   have c7:(pieces N).length=P:=by rw[<-hP];unfold pieces;simp
   rw[List.take_of_length_le (by omega)] at own;go_wp2;go_ret;exact⟨X,j,kc,rfl,⟨own.choose,own.choose_spec.1.less (by omega),own.choose_spec.2⟩,hb⟩
def Wq (b:Nd)(a:Int):Ql:=⟨b.least,a⟩
def Uu (R:Int->Nd × Int)(f:List Nd)(e:List Int):Prop:=∀p∈f.zip e,R p.2=(p.1,0)/\1<=p.2/\p.2<2048
theorem Uu.ext {R R':Int->Nd × Int}{dn:List Nd}{az:List Int}(h:Uu R dn az)(e:Ext R R'):Uu R' dn az:=λp u=>by
 obtain⟨f,m⟩:=h p u;exact⟨by rw[e _ (by rw[f])];exact f,m⟩
section
variable {D:DM}{S0:Sp}{C0:Ct}{O H:List Int}{P:Pl}
theorem Zv.other {l:Int}{s o:Qu}(h:Zv P D O l o)(hne:o.held=true\/o.addr≠s.addr){O':List Int}{P':Pl}(hf:∀x,x≠s.addr->P'.C.get x=P.C.get x/\P'.Qh D x=P.Qh D x)(hO:∀x,x≠s.addr->(x∈O'↔x∈O)):Zv P' D O' l o:=by
 refine⟨λh1 h2=>?_,λh1=>?_⟩
 ·obtain⟨f,y,m⟩:=h.shared h1 h2;have hn:o.addr≠s.addr:=hne.elim (λe=>by rw[h2] at e;cases e) id;obtain⟨B,u⟩:=hf _ hn;exact⟨by rw[B];exact f,λh=>y ((hO _ hn).1 h),by rw[u];exact m⟩
 ·obtain⟨f,y,m⟩:=h.mine h1;have hn:o.addr≠s.addr:=hne.elim (λe=>by rw[f] at e;cases e) id;obtain⟨B,u⟩:=hf _ hn;exact⟨f,(hO _ hn).2 y,by rw[u];exact m⟩
theorem qti {s:Qu}{x:Int}(e:x≠s.addr):x∈Dw O s↔x∈O:=by
 unfold Dw;split
 ·exact Iff.rfl
 ·rw[Fv];exact⟨λh=>h.1,λh=>⟨h,e⟩⟩
theorem qk6 {s:Qu}{x:Int}(h:x∈Dw O s):x∈O/\(s.shared=false->x≠s.addr):=by
 unfold Dw at h;split at h
 ·rename_i f;exact⟨h,λe=>by rw[e] at f;cases f⟩
 ·obtain⟨h1,h2⟩:=Fv.1 h;exact⟨h1,λ_=>h2⟩
theorem q4t {l:Int}:∀(olds:List Qu) {O H:List Int} {P:Pl} (f:List Nd) (G:List Ql) (X:List Int),Keep D S0 C0 O H P->(∀s∈olds,Zv P D O l s)->(olds.Pairwise λs o=>o.held=true\/o.addr≠s.addr)->
  (∀b∈f,Fits (P.hide D O) b)->(∀a:Nat,0<a->a<P.C.n->H.count (a:Int)=(olds.flatMap own++(f.flatMap Nd.named++X)).count (a:Int))->
  ∃P' J B m E,f=B++m/\E.length=B.length/\Gu olds P f G=some (P',m,G++List.zipWith Wq B E)/\Keep D S0 C0 J (E++(m.flatMap Nd.named++X)) P'/\Move l D O J P P' 0/\
   (∀x,x∈J->x∈O/\∀s∈olds,s.shared=false->x≠s.addr)/\Uu (P'.hide D J) B E
 |[],O,H,P,f,G,X,K,_,_,_,hH=>⟨P,O,[],f,[],rfl,rfl,by unfold Gu;simp,K.perm λa h1 h2=>(hH a h1 h2).symm,Move.refl l D O P,λx F=>⟨F,λs Y=>(by cases Y)⟩,λp U=>(by cases U)⟩
 |s::olds,O,H,P,f,G,X,K,Y,hd,hf,hH=>by
  obtain⟨Z,a2⟩:=List.pairwise_cons.1 hd;have a1:=Y s (List.mem_cons_self ..);have hcut:∀a:Nat,0<a->a<P.C.n->H.count (a:Int)=(own s++(olds.flatMap own++(f.flatMap Nd.named++X))).count (a:Int):=λa h1 h2=>by
   rw[hH a h1 h2,List.flatMap_cons,List.append_assoc]
  have u:(∀P',P.leave s=some P'->Gu (s::olds) P f G=Gu olds P' f G)->∃P' J B m E,f=B++m/\E.length=B.length/\Gu (s::olds) P f G=some (P',m,G++List.zipWith Wq B E)/\Keep D S0 C0 J (E++(m.flatMap Nd.named++X)) P'/\Move l D O J P P' 0/\
   (∀x,x∈J->x∈O/\∀R∈s::olds,R.shared=false->x≠R.addr)/\Uu (P'.hide D J) B E:=λM=>by
   obtain⟨P1,e1,K1,m1,f1⟩:=qck K a1 hcut;obtain⟨P2,O2,B,m,E,g1,g2,g3,g4,g5,g6,g7⟩:=q4t olds f G X K1 (λo ho=>(Y o (List.mem_cons_of_mem _ ho)).other (Z o ho) f1 λx F=>qti F) a2 (λb hb=>(hf b hb).ext m1.ext) (λa _ _=>rfl);refine⟨P2,O2,B,m,E,g1,g2,by rw[M P1 e1];exact g3,g4,m1.trans K.nonneg g5,λx F=>?_,g7⟩;obtain⟨j1,j2⟩:=g6 x F;obtain⟨j3,j4⟩:=qk6 j1;refine⟨j3,λR y=>?_⟩;rcases List.mem_cons.1 y with rfl|y
   ·exact j4
   ·exact j2 R y
  match f,hf,hH,hcut,u with
  |[],hf,hH,hcut,u=>
   refine u λP' e=>?_
   show (match P.leave s with|some P'=>Gu olds P' [] G|none=>none)=_;rw[e]
  |b::f,hf,hH,hcut,u=>
   by_cases I:s.shared=true\/P.C.fresh s.addr=false
   ·refine u λP' e=>?_
    show (if s.shared=true\/P.C.fresh s.addr=false then (match P.leave s with|some P'=>Gu olds P' (b::f) G|none=>none) else _)=_;rw[if_pos I,e]
   ·have a8:s.shared=false:=by
     cases e:s.shared with
     |true=>exact absurd (.inl e) I
     |false=>rfl
    have b0:P.C.fresh s.addr=true:=by
     cases e:P.C.fresh s.addr with
     |true=>rfl
     |false=>exact absurd (.inr e) I
    obtain⟨m1,m2,m3⟩:=a1.mine a8;have hg:=(K.opened _ m2).2.1;obtain⟨c,hc,b1⟩:=Ae (C:=P.C) (a:=s.addr) (by omega);obtain⟨c0,_⟩:=K.first (c:=c) (by rw[<-hc];omega)
    have a6:own s=[s.addr]:=if_neg (by rw[m1];decide);rw[a6] at hcut;obtain⟨e0,K1,hN,mv,hC,a7⟩:=K.set (c:=c) (N:=b) (H0:=s.addr::(olds.flatMap own++(f.flatMap Nd.named++X))) (by rw[<-hc];exact m2) (by rw[<-hc];exact b0) (hf b (List.mem_cons_self ..)) (λa h1 h2=>by
     rw[hcut a h1 h2,List.flatMap_cons];simp only[List.count_append,List.count_cons,List.count_nil];omega)
    rw[<-hc] at e0 K1 hN mv hC a7;have W:=mv l (by omega);obtain⟨P2,O2,B,m,E,g1,g2,g3,g4,g5,g6,g7⟩:=q4t olds f (G++[⟨b.least,s.addr⟩]) (s.addr::X) K1 (λo ho=>(Y o (List.mem_cons_of_mem _ ho)).other (Z o ho) (λx F=>⟨by rw[hC],a7 x F⟩) λx F=>by
      rw[Fv];exact⟨λh=>h.1,λh=>⟨h,F⟩⟩) a2 (λx F=>(hf x (List.mem_cons_of_mem _ F)).ext W.ext) (λa h1 h2=>by
      simp only[List.count_append,List.count_cons];omega)
    refine⟨P2,O2,b::B,m,s.addr::E,by rw[g1];rfl,by rw[List.length_cons,List.length_cons,g2],?_,?_,W.trans K.nonneg g5,λx F=>?_,λp U=>?_⟩
    ·show (if s.shared=true\/P.C.fresh s.addr=false then _ else if P.Gw s.addr b=0 then Gu olds (P.Vq s.addr b) f (G++[⟨b.least,s.addr⟩]) else none)=_;rw[if_neg I,if_pos e0,g3,List.zipWith_cons_cons,List.append_assoc];rfl
    ·refine g4.perm λa _ _=>?_
     simp only[List.count_append,List.count_cons,List.cons_append];omega
    ·obtain⟨j1,j2⟩:=g6 x F;obtain⟨j3,j4⟩:=Fv.1 j1;refine⟨j3,λR y=>?_⟩;rcases List.mem_cons.1 y with rfl|y
     ·exact λ_=>j4
     ·exact j2 R y
    ·rw[List.zip_cons_cons] at U;rcases List.mem_cons.1 U with rfl|U
     ·have hn:=K.c.1.2;exact⟨by show (P2.hide D O2) s.addr=(b,0);rw[g5.ext _ (by rw[hN])];exact hN,by show 1<=s.addr;omega,by show s.addr<2048;omega⟩
     ·exact g7 p U
theorem qaj:∀(e:List Nd) {H:List Int} {P:Pl} (u:List Ql) (X:List Int),Keep D S0 C0 O H P->(∀b∈e,Fits (P.hide D O) b)->(∀a:Nat,0<a->a<P.C.n->H.count (a:Int)=(e.flatMap Nd.named++X).count (a:Int))->
  (∃P' y,y.length=e.length/\Xe e P u=some (P',some (u++List.zipWith Wq e y))/\Keep D S0 C0 O (y++X) P'/\(∀l,Move l D O O P P' e.length)/\Uu (P'.hide D O) e y)\/(∃P',Xe e P u=some (P',none)/\P.C.free<e.length)
 |[],H,P,u,X,K,_,hH=>.inl ⟨P,[],rfl,by unfold Xe;simp,K.perm λa h1 h2=>(hH a h1 h2).symm,λl=>Move.refl l D O P,λp m=>(by cases m)⟩
 |b::e,H,P,u,X,K,hf,hH=>by
  have E:=hf b (List.mem_cons_self ..)
  cases m:P.C.pick with
  |none=>
   right
   have F:P.Jq b=6:=by unfold Pl.Jq;rw[if_pos E.may];exact (Ct.Vm m).1
   refine⟨P.Zn b,?_,by rw[Ct.Ws m];exact Nat.succ_pos _⟩;show (if P.Jq b=0 then _ else if P.Jq b=6 then some (P.Zn b,none) else none)=_;rw[if_neg (by rw[F];decide),if_pos F]
  |some c=>
   obtain⟨M,J,I,G,B,c1,c2⟩:=K.put (H0:=e.flatMap Nd.named++X) m E (λa h1 h2=>by
    rw[hH a h1 h2,List.flatMap_cons];simp only[List.count_append];omega)
   have f:Xe (b::e) P u=Xe e (P.Zn b) (u++[⟨b.least,P.Xg b⟩]):=by
    show (if P.Jq b=0 then _ else _)=_;rw[if_pos M]
   rcases qaj e (u++[⟨b.least,P.Xg b⟩]) ((c:Int)::X) I (λx U=>(hf x (List.mem_cons_of_mem _ U)).ext (B 0).ext) (λa _ _=>by
    simp only[List.count_append,List.count_cons];omega) with⟨P',y,g1,g2,g3,g4,g5⟩|⟨P',g1,g2⟩
   ·left
    refine⟨P',(c:Int)::y,by rw[List.length_cons,List.length_cons,g1],?_,g3.perm λa _ _=>?_,λl=>?_,λp m=>?_⟩
    ·rw[f,g2,List.zipWith_cons_cons,List.append_assoc,J];rfl
    ·simp only[List.count_append,List.count_cons,List.cons_append];omega
    ·have:=(B l).trans K.nonneg (g4 l);exact this.more (by rw[List.length_cons];omega)
    ·rw[List.zip_cons_cons] at m;rcases List.mem_cons.1 m with rfl|m
     ·exact⟨by show (P'.hide D O) (c:Int)=(b,0);rw[(g4 0).ext _ (by rw[G])];exact G,by show (1:Int)<=(c:Int);omega,by show (c:Int)<2048;omega⟩
     ·exact g5 p m
   ·right
    have R:=(B 0).free;exact⟨P',by rw[f];exact g1,by rw[List.length_cons];omega⟩
theorem qk7 {l:Int}(K:Keep D S0 C0 O H P)(x:Px)(X:List Int)(J:∀s∈x.olds,Zv P D O l s)(hd:x.olds.Pairwise λs o=>o.held=true\/o.addr≠s.addr)
  (E:∀b∈pieces x.N,Fits (P.hide D O) b) (Y:∀a:Nat,0<a->a<P.C.n->H.count (a:Int)=(x.olds.flatMap own++((pieces x.N).flatMap Nd.named++X)).count (a:Int)) :
  (∃P' u e,e.length=(pieces x.N).length/\P.Y7 x=some (P',some (List.zipWith Wq (pieces x.N) e))/\Keep D S0 C0 u (e++X) P'/\Move l D O u P P' (pieces x.N).length/\
   (∀y,y∈u->y∈O/\∀s∈x.olds,s.shared=false->y≠s.addr)/\Uu (P'.hide D u) (pieces x.N) e)\/(∃P',P.Y7 x=some (P',none)/\P.C.free<(pieces x.N).length):=by
 obtain⟨P1,Z,R,m,e,f,M,G,U,B,W,g7⟩:=q4t x.olds (pieces x.N) [] X K J hd E Y;unfold Pl.Y7;rw[G];dsimp only;rcases qaj m (List.zipWith Wq R e) (e++X) U (λb I=>(E b (by rw[f];exact List.mem_append_right _ I)).ext B.ext) (λa _ _=>by
   simp only[List.count_append];omega) with⟨P2,az2,j1,j2,j3,j4,j5⟩|⟨P2,j1,j2⟩
 ·left
  refine⟨P2,Z,e++az2,by rw[f,List.length_append,List.length_append,M,j1],?_,j3.perm λa _ _=>?_,?_,W,λp F=>?_⟩
  ·rw[List.nil_append,j2,f,List.zipWith_append (by omega)]
  ·simp only[List.count_append];omega
  ·exact (B.trans K.nonneg (j4 l)).more (by rw[f,List.length_append];omega)
  ·rw[f,List.zip_append (by omega)] at F;rcases List.mem_append.1 F with h|h
   ·exact g7.ext (j4 0).ext p h
   ·exact j5 p h
 ·right
  have:=B.free;exact⟨P2,by rw[List.nil_append];exact j1,by rw[f,List.length_append];omega⟩
end
def Zu:List Qu->List Int->List Int
 |[],H0=>H0
 |t::way,H0=>own t++((if t.shared=true then [] else (Zx t t.next (t.next+1)).named)++Zu way H0)
def Y1 (P:Pl)(D:DM)(O:List Int):Nat->Qu->List Qu->List Qc->List Qc->Prop
 |_,_,[],L,Rr=>L=[]/\Rr=[]
 |l,s,t::way,L,Rr=>∃(e f:List Zw) (x:Zw) (m u:List Qc),t.N=⟨((l+1:Nat):Int),[],(e++x::f).map Qn⟩/\t.next=e.length/\x.1=s.addr/\s.held=t.shared/\t.N.may=true/\(way≠[]->6<=e.length+f.length+1)/\
  (∀y∈e++f,good1 (P.hide D O) l y)/\(s.shared=true->Qp (P.hide D O) l x.1 x.2)/\Zv P D O ((l+1:Nat):Int) t/\Y1 P D O (l+1) t way m u/\L=m++rowOf e/\Rr=rowOf f++u/\∀y∈e++f,y.1≠s.addr
section
variable {D:DM}{S0:Sp}{C0:Ct}{O H:List Int}{P:Pl}
theorem Y1.ext {O':List Int}{P':Pl}(K:Keep D S0 C0 O H P){lv:Nat}(e:Ext (P.hide D O) (P'.hide D O'))(ha:Bc (lv:Int) D O O' P P'):∀{way:List Qu} {l:Nat} {s:Qu} {L f:List Qc},lv<=l->Y1 P D O l s way L f->Y1 P' D O' l s way L f
 |[],l,s,L,f,_,h=>h
 |t::way,l,s,L,f,hl,h=>by
  obtain⟨Z,W,x,G,J,h1,h2,h3,M,Y,X,R,E,U,m,u,B⟩:=h;exact⟨Z,W,x,G,J,h1,h2,h3,M,Y,X,λy F=>q3m (R y F) e,λI=>P9 e (E I),U.above K ha (by omega),Y1.ext K e ha (by omega) m,u,B⟩
def qpp (way:List Qu):Prop:=∀t∈way,t.shared=false
theorem qed:∀{way:List Qu} {l:Nat} {s:Qu} {L u:List Qc},Y1 P D O l s way L u->s.held=false->qpp way
 |[],_,_,_,_,_,_=>λt f=>(by cases f)
 |t::way,l,s,L,u,h,hs=>by
  obtain⟨X,R,x,J,K,h1,h2,Y,B,W,U,M,I,F,m,E,G⟩:=h;have f:t.shared=false:=B.symm.trans hs;intro y e;rcases List.mem_cons.1 e with rfl|e
  ·exact f
  ·exact qed m (F.mine f).1 y e
theorem q1j (l:Nat)(G:List Zw):(⟨((l+1:Nat):Int),[],G.map Qn⟩:Nd).named=G.map (·.1):=by
 unfold Nd.named;rw[List.filterMap_nil,List.append_nil,List.map_map];rfl
theorem q4u (l:Nat)(G:List Zw)(i j:Nat):(⟨((l+1:Nat):Int),[],G.map Qn⟩:Nd).cut i j=⟨((l+1:Nat):Int),[],((G.drop i).take (j-i)).map Qn⟩:=by
 unfold Nd.cut;rw[if_neg (by show ¬((l+1:Nat):Int)=0;omega),List.map_take,List.map_drop]
theorem q7v {t:Qu}{l:Nat}{G:List Zw}(h:t.N=⟨((l+1:Nat):Int),[],G.map Qn⟩)(i j:Nat):Zx t i j=⟨((l+1:Nat):Int),[],(G.take i++G.drop j).map Qn⟩:=by
 unfold Zx;rw[h,q4u,q4u];unfold Jd Nd.size;simp only[List.flatMap_cons,List.flatMap_nil,List.append_nil,List.length_nil,Nat.zero_add,List.length_map,List.drop_zero,Nat.sub_zero,List.map_append];have e:List.take (G.length-j) (List.drop j G)=List.drop j G:=List.take_of_length_le (by rw[List.length_drop];omega);rw[e]
theorem q2i {t:Qu}{l:Nat}{GL GR:List Zw}{x:Zw}(h:t.N=⟨((l+1:Nat):Int),[],(GL++x::GR).map Qn⟩)(hn:t.next=GL.length):(Zx t t.next (t.next+1)).named=GL.map (·.1)++GR.map (·.1):=by
 rw[q7v h,q1j,hn,List.take_left,List.drop_append,List.drop_of_length_le (by omega)];have e:GL.length+1-GL.length=1:=by omega
 rw[e];simp
theorem Y1.open_ (K:Keep D S0 C0 O H P){c:Nat}(h1:P.C.get (c:Int)=1)(hc:(c:Int)∈H){H0:List Int}:∀{way:List Qu} {l:Nat} {s:Qu} {L u:List Qc},Y1 P D O l s way L u->qpp way->s.shared=false->(c:Int)∉Zu way H0->Y1 P D ((c:Int)::O) l s way L u
 |[],l,s,L,u,h,_,_,_=>h
 |t::way,l,s,L,u,h,hb,hs,hn=>by
  obtain⟨GL,GR,x,L',U,J,G,M,g4,g5,g6,g7,g8,g9,E,F,B⟩:=h;have m:=hb t (List.mem_cons_self ..);have hn:(c:Int)∉own t++((if t.shared=true then [] else (Zx t t.next (t.next+1)).named)++Zu way H0):=hn;rw[m,if_neg (by decide),q2i J G] at hn;simp only[List.mem_append,not_or] at hn;obtain⟨n1,⟨X,n3⟩,n4⟩:=hn;obtain⟨m1,W,R⟩:=g9.mine m;refine⟨GL,GR,x,L',U,J,G,M,g4,g5,g6,λy I=>?_,λh=>?_,⟨λh=>?_,λ_=>⟨m1,List.mem_cons_of_mem _ W,R⟩⟩,Y1.open_ K h1 hc E (λt' Y=>hb t' (List.mem_cons_of_mem _ Y)) m n4,F,B⟩
  ·obtain⟨k1,k2,Z⟩:=g7 y I;have f:y.1≠(c:Int):=λe=>by
    rcases List.mem_append.1 I with h|h
    ·exact X (e▸List.mem_map_of_mem h)
    ·exact n3 (e▸List.mem_map_of_mem h)
   exact⟨q4r K h1 hc l _ _ f k1,by rw[q2g f];exact k2,Z⟩
  ·rw[hs] at h;cases h
  ·rw[m] at h;cases h
theorem Keep.long (K:Keep D S0 C0 O H P):∀(l:Nat) (y:Zw),good1 (P.hide D O) l y->3*6 ^ l<=y.2.length
 |0,y,h=>by
  obtain⟨h1,h2,_⟩:=h;rw[h1.1] at h2;unfold Nd.enough at h2;rw[if_pos rfl] at h2;simpa using h2
 |l+1,y,h=>by
  obtain⟨h1,h2,h3⟩:=h;obtain⟨Z,_,n,hn,Y,h0⟩:=q32 (Fq h1).2.2;have L:=K.told (x:=y.1) (by rw[hn];exact h0) Z;obtain⟨kids,parts,e,k1,k2,J,U⟩:=h1;rw[e] at h2;unfold Nd.enough at h2;rw[if_neg (show ¬(((l+1:Nat):Int))=0 by omega)] at h2;have h2:6<=kids.length:=by simpa using h2
  have m:∀p∈parts,3*6 ^ l<=p.length:=λp B=>by
   obtain⟨j,I,W⟩:=List.getElem_of_mem B;have u:j<kids.length:=by omega
   have X:(Qg kids j)∈((P.hide D O) y.1).1.kids:=by rw[e];exact List.mem_of_getElem? (Rf u)
   obtain⟨j1,j2,j3,j4⟩:=L.kids _ X;have G:=(U j u).1;have ep:parts.getD j []=p:=by rw[List.getD_eq_getElem?_getD,List.getElem?_eq_getElem I,W];rfl
   rw[ep] at G;obtain⟨_,_,c,hc,a1,F⟩:=q32 j1;obtain⟨c0,_⟩:=K.first F
   have M:=K.c.1.2;exact K.long l ((Qg kids j).a,p) ⟨G,j4,by show 1<=(Qg kids j).a;omega,by show (Qg kids j).a<2048;omega⟩
  have E:∀(f:List (List Qc)),(∀p∈f,3*6 ^ l<=p.length)->f.length*(3*6 ^ l)<=f.flatten.length:=by
   intro f;induction f with
   |nil=>intro _;simp
   |cons p f ih=>
    intro B;have h1:=B p (List.mem_cons_self ..);have h2:=ih λq R=>B q (List.mem_cons_of_mem _ R)
    rw[List.flatten_cons,List.length_append,List.length_cons,Nat.add_mul,Nat.one_mul];omega
  have:=E parts m;rw[J];have h6:6*(3*6 ^ l)<=parts.length*(3*6 ^ l):=Nat.mul_le_mul_right _ (by omega);rw[Nat.pow_succ];omega
theorem Keep.Fp (K:Keep D S0 C0 O H P){l:Nat}{a:Int}{its:List Qc}(h:Qp (P.hide D O) l a its):∃M,Yr (P.hide D O) l (P.hide D O a).1 M/\M.flatten=its/\Loc (P.hide D O) a/\M≠[]:=by
 obtain⟨ho,_,n,hn,a1,h0⟩:=q32 (Fq h).2.2;have L:=K.told (x:=a) (by rw[hn];exact h0) ho
 cases l with
 |zero=>
  rw[h.1];exact⟨its.map λx=>[x],⟨its,rfl,rfl⟩,Ig its,L,λe=>h.2 (List.map_eq_nil_iff.1 e)⟩
 |succ l=>
  obtain⟨kids,parts,e,Z,k2,U,I⟩:=h;have G:(kids.zip parts).length=kids.length:=by rw[List.length_zip];omega
  have u:∀j (m:j<kids.length),kids[j]=Qg kids j/\parts[j]'(by omega)=parts.getD j []:=λj m=>by
   have:=Rf m;rw[List.getElem?_eq_getElem m] at this;exact⟨Option.some.inj this,by rw[List.getD_eq_getElem?_getD,List.getElem?_eq_getElem (by omega)];rfl⟩
  have hk:(List.zip (kids.map (·.a)) parts).map Qn=kids:=by
   apply List.ext_getElem
   ·rw[List.length_map,List.length_zip,List.length_map];omega
   ·intro j h1 h2;obtain⟨B,F⟩:=u j h2;obtain⟨_,x,r,e3,e4⟩:=I j h2;rw[List.getElem_map,List.getElem_zip,List.getElem_map,F,e3,B];unfold Qn;show (⟨x.k,(Qg kids j).a⟩:Ql)=_;rw[<-e4]
  have R:(List.zip (kids.map (·.a)) parts).map (·.2)=parts:=List.map_snd_zip (by rw[List.length_map];omega);refine⟨parts,⟨List.zip (kids.map (·.a)) parts,?_,R.symm,λy X=>?_⟩,U.symm,L,λep=>Z (List.eq_nil_of_length_eq_zero (by rw[<-k2,ep];rfl))⟩
  ·rw[e,hk]
  ·obtain⟨j,m,J⟩:=List.getElem_of_mem X;rw[List.length_zip,List.length_map] at m;have f:j<kids.length:=by omega
   obtain⟨B,F⟩:=u j f;rw[List.getElem_zip,List.getElem_map,B,F] at J;rw[<-J];have Y:(Qg kids j)∈((P.hide D O) a).1.kids:=by rw[e];exact List.mem_of_getElem? (Rf f)
   obtain⟨j1,j2,j3,j4⟩:=L.kids _ Y;obtain⟨_,_,c,hc,a2,E⟩:=q32 j1;obtain⟨c0,_⟩:=K.first E
   have W:=K.c.1.2;exact⟨(I j f).1,j4,by show 1<=(Qg kids j).a;omega,by show (Qg kids j).a<2048;omega⟩
theorem qk8 {R:Int->Nd × Int}{l:Nat}{N:Nd}{M:List (List Qc)}(h:Yr R l N M)(hm:N.may=true):M.length<=Qq (l:Int)/\l<8:=by
 cases l with
 |zero=>
  obtain⟨its,rfl,rfl⟩:=h;have:=(q1r hm rfl).2.2.2;rw[List.length_map];exact⟨this,by omega⟩
 |succ l=>
  obtain⟨G,rfl,rfl,_⟩:=h;obtain⟨_,_,m,_,f,_⟩:=Py hm (by show ¬((l+1:Nat):Int)=0;omega);have m:((l+1:Nat):Int)<8:=m;have e:Qq ((l+1:Nat):Int)=12:=if_neg (by omega);rw[e,List.length_map];have f:(G.map Qn).length<=12:=f;rw[List.length_map] at f;exact⟨f,by omega⟩
end
