/- The code's dir: each, with whatever visits the entries -/
import Derived.Test.YthkfkhejjmhomaaGreatDoorDb42
namespace Go.Proofs.YthkfkhejjmhomaaGreatDoor
open Go Go.RowKit Go.Proofs
set_option maxHeartbeats 16000000
set_option maxRecDepth 100000
theorem qe8 {w:World}{b:Nat}{x y z:Int}(H:IB w b [.int .i64 x,.int .i64 y,.int .i64 z]):(loadVar 45 ⟨b,0,none⟩).run Tryz.prog w=.ok (.agg #[.int .i64 x,.int .i64 y,.int .i64 z]) w:=
 run_loadVar_mid w b 0 45 _ _ H.range Tryz.underlying45 rfl (by kernel_rfl)
theorem qe9 (a b:Int)(w:World):Calls Tryz.prog 65 #[.int .i64 a,.int .i64 b] w λe w'=>e=.returned (.agg #[.int .i64 a,.int .i64 2,.int .i64 b])/\Below w.1.size w w':=by
 go_enter Tryz.func65,Tryz.ntmps65
 go_wp2;exact bodyPost_ret (qvv Tryz.results65 rfl (qe8 (IB.new w [.int .i64 a,.int .i64 2,.int .i64 b] 45))) rfl ⟨rfl,Qk⟩
structure Qae (f:Nat)(cap:Array Value)(i:Int)(Inv:List De->(Nat->Prop)->World->Prop):Prop where
 ent:∀(args:Array Value) (w:World),(callFunc f args).run Tryz.prog w=.ok (.enter f args) w
 keep:∀{L T w w'},Inv L T w->Below w.heap.size w w'->Inv L T w'
 call:∀{L T w} (x:De),Inv L T w->L.length<=200->0<=x.1/\x.1<2147483648->
  Calls Tryz.prog f (#[.agg #[.int .i64 i,.int .i64 2,.int .i64 x.1],.agg #[.string x.2.name,.int .i64 x.2.ino,.int .i64 x.2.kind]]++cap) w λe w'=>e=.returned (.tuple #[])/\∃T',Inv (L++[x]) T' w'/\Turn T w w'/\∀k,T' k->T k\/w.heap.size<=k
def Le (L:List De)(j:Nat):De:=L.getD j (0,Za.zero)
theorem qea {L:List De}{j:Nat}(h:j<L.length):L[j]?=some (Le L j):=by unfold Le;simp[List.getD,h]
theorem qkn {L:List De}{j:Nat}(h:j<L.length):Le L j∈L:=List.mem_of_getElem? (qea h)
theorem qxy {L:List De}{j:Nat}(h:j<L.length):L.take (j+1)=L.take j++[Le L j]:=by
 rw[List.take_add_one,qea h];rfl
theorem qxz {L:List De}{i:Int}{j:Nat}(h:j<L.length):Zb (Qu i L) j=Yl i (Le L j):=by
 have h1:(Qu i L)[j]?=some (Yl i (Le L j)):=by unfold Qu;rw[List.getElem?_map,qea h];rfl
 have h2:=Tf (xs:=Qu i L) (by rw[q2g];exact h);rw[h1] at h2;exact (Option.some.inj h2).symm
theorem qaw {w:World}{p:Nat}{R:Int->Nd × Int}{root i:Int}{A C:List Qb}{L:List De}{lim:Int}{f:Nat}{cap:Array Value}{F:List De->(Nat->Prop)->World->Prop}{T0:Nat->Prop}
  (T:Told w p R root (A++(Qu i L++C))) (ht:Tab w) (X:Ctx i A C) (hD:Jv L lim) (hl:lim<=2147483648) (V:Qae f cap i F) (hI:F [] T0 w) (b5:∀k,T0 k->k<w.1.size) :
  Calls Tryz.prog 49 #[.pointer (some ⟨p,0,none⟩),.int .i64 root,.int .i64 i,.func (.func f) #[] cap] w λe w'=>e=.returned (.int .i64 0)/\∃T,F L T w'/\Turn T0 w w'/\∀k,T k->T0 k\/w.1.size<=k:=by
 have a7:=T.len;have c9:L.length<=150:=by rw[List.length_append,List.length_append,q2g] at a7;omega
 have V':=Lib.hid V;have c8:=V.ent;have HX:=Lib.hid X;have HT:=Lib.hid T;clear V T X;go_enter Tryz.func49,Tryz.ntmps49
 go_wp2_with fail
 refine (qe9 i 0 w).mono ?_;rintro e wa ⟨rfl,ba⟩;go_wp2_with fail
 refine (qe9 i 2147483647 wa).mono ?_;rintro e wb ⟨rfl,bb⟩;have bw:Below w.1.size w wb:=ba.trans (bb.mono ba.size);have tb:=ht.below bw ht.1;have a8:=(HT.out.below bw).Qam tb ⟨i,2,0⟩ ⟨i,2,2147483647⟩ 2147483647 (Qu i L) (by rw[HX.out.within hD hl];exact List.take_of_length_le (by rw[q2g];have:(2147483647:Int).toNat=2147483647:=rfl;omega));go_wp2_with fail
 refine a8.mono ?_;rintro e w1 ⟨A1,n1,c1,rfl,B,a2⟩;have c6:=bw.size;have O:Below w.1.size w w1:=bw.trans (a2.mono c6);have hn:=B.Yc.len;rw[q2g] at hn;obtain⟨c7,b8⟩:=B.Yc.bounds;unfold maxLen at b8;have b2:=V'.out.keep hI O;clear hI a8 tb ba bb bw a2;go_wp2_with fail
 go_loopw [30] (λs wr=>∃(j:Nat) (T:Nat->Prop),j<=n1/\s=.int .i64 (j:Int)/\F (L.take j) T wr/\Turn T0 w1 wr/\∀k,T k->T0 k\/w1.1.size<=k) (λs _=>n1-(intOf s).toNat)
 case atStart=>exact⟨0,T0,Nat.zero_le _,rfl,b2,Turn.refl _ _,λk y=>.inl y⟩
 case round=>
  obtain⟨j,T,hj,rfl,G,hX,M⟩:=hrel;by_cases b7:j<n1
  ·have I:j<L.length:=by omega
   have E:=B.low hX (λk y=>by have:=b5 k y;omega);obtain⟨gb,o,W,Z,q1,rfl,hg,x0,x1,x2,x3,hs⟩:=E.Yc.cell b7;rw[qxz I] at x0 x1 x2 hs;have b1:=hD.low _ (qkn I);have u:=hD.may _ (qkn I);have b0:=qxy I;obtain⟨x,hx⟩:∃x,Le L j=x:=⟨_,rfl⟩;rw[hx] at x0 x1 x2 hs b1 u b0;change wr.cell? ⟨gb,o+j*4,none⟩=some (.int .i64 i) at x0;change wr.cell? ⟨gb,o+j*4+1,none⟩=some (.int .i64 2) at x1;change wr.cell? ⟨gb,o+j*4+2,none⟩=some (.int .i64 x.1) at x2;change Sl wr W Z q1 x.2.bytes at hs;have b9:Z<=1000000:=by have:=hs.len;rw[q9r] at this;have h2:=(Bool.and_eq_true_iff.1 u).1;have h3:=of_decide_eq_true h2;omega
   obtain⟨a6,J⟩:=qt1 x.2 u;have e0:(0:Int)<=(j:Int):=by omega
   have e1:(j:Int)<(n1:Int):=by omega
   have a1:=Lib.hid G;clear G E hx u;have bx:Below wr.1.size wr (wr.alloc (.cells #[.int .i64 i,.int .i64 2,.int .i64 x.1,.slice W Z q1] 50)):=Qk;have Y:=hs.below bx;have Kx:IB (wr.alloc (.cells #[.int .i64 i,.int .i64 2,.int .i64 x.1,.slice W Z q1] 50)) wr.1.size [.int .i64 i,.int .i64 2,.int .i64 x.1,.slice W Z q1]:=IB.new wr _ _;go_wp2_with fail
   generalize wr.alloc (.cells #[.int .i64 i,.int .i64 2,.int .i64 x.1,.slice W Z q1] 50)=wx at bx Y Kx ⊢;refine (q9s W Z q1 x.2.bytes wx Y b9).mono ?_;rw[(qdd J).1,(qdd J).2,a6];rintro e w3 ⟨rfl,b3⟩;have K3:=Kx.below b3 Kx.lt;have z3:=K3.lt;have k0:=K3.cell 0 rfl;have k1:=K3.cell 1 rfl;have k2:=K3.cell 2 rfl;clear x0 x1 x2 x3 hs Y Kx;have b4:Below w3.1.size w3 (w3.alloc (.cells #[.string x.2.name,.int .i64 x.2.ino,.int .i64 x.2.kind] 32)):=Qk;go_wp2_with fail
   generalize w3.alloc (.cells #[.string x.2.name,.int .i64 x.2.ino,.int .i64 x.2.kind] 32)=w4 at b4 ⊢;have K:Below wr.1.size wr w4:=bx.trans ((b3.mono bx.size).trans (b4.mono (Nat.le_trans bx.size b3.size)));have z4:=K.size;refine (V'.out.call x (V'.out.keep a1.out K) (by rw[List.length_take];omega) ⟨b1.1,by omega⟩).mono ?_;rintro e w5 ⟨rfl,T5,I5,X5,b6⟩;clear k0 k1 k2 a1;go_wp2_with fail
   refine⟨⟨j+1,T5,by omega,rfl,by rw[b0];exact I5,?_,?_⟩,by simp[intOf];omega⟩
   ·exact (hX.trans (Qx (S:=T0) K) λ_ h=>.inl h).trans X5 λk y=>M k y
   ·intro k y;rcases b6 k y with h|h
    ·exact M k h
    ·have:=hX.size;exact .inr (by omega)
  ·obtain rfl:j=n1:=by omega
   have e1:¬(j:Int)<(j:Int):=by omega
   go_wp2_with fail
   go_ret;refine⟨rfl,T,?_,?_,?_⟩
   ·rw[List.take_of_length_le (by omega)] at G;exact G
   ·exact (Qx O).trans hX λk y=>.inl y
   ·exact λk y=>(M k y).imp id λh=>by have:=O.size;omega
theorem qeb (w:World)(r s:List Value)(t u:TypeId):IB ((w.alloc (.cells r.toArray t)).alloc (.cells s.toArray u)) w.1.size r/\IB ((w.alloc (.cells r.toArray t)).alloc (.cells s.toArray u)) (w.1.size+1) s/\Below w.1.size w ((w.alloc (.cells r.toArray t)).alloc (.cells s.toArray u))/\((w.alloc (.cells r.toArray t)).alloc (.cells s.toArray u)).1.size=w.1.size+2:=by
 have b:Below (w.alloc (.cells r.toArray t)).1.size (w.alloc (.cells r.toArray t)) ((w.alloc (.cells r.toArray t)).alloc (.cells s.toArray u)):=Qk;have h1:IB (w.alloc (.cells r.toArray t)) w.1.size r:=IB.new w r t;have h2:IB ((w.alloc (.cells r.toArray t)).alloc (.cells s.toArray u)) (w.alloc (.cells r.toArray t)).1.size s:=IB.new _ s u;have e:(w.alloc (.cells r.toArray t)).1.size=w.1.size+1:=by simp
 have f:Below w.1.size w (w.alloc (.cells r.toArray t)):=Qk;exact⟨h1.below b h1.lt,by rw[<-e];exact h2,f.trans (b.mono f.size),by simp⟩
theorem qmv {i:Int}{x:De}{n:ByteArray}{nb f B y:Nat}{w:World}{a1 a2 a3 k1 k2 k3:Value}{v:Bool}(N:IB w nb [.string n])(F:IB w f [a1,a2,a3])(K:IB w B [k1,k2,k3])(I:IB w y [.bool v])(h1:f≠B)(h2:f≠y)(h3:B≠y) :
  Calls Tryz.prog 102 #[.agg #[.int .i64 i,.int .i64 2,.int .i64 x.1],.agg #[.string x.2.name,.int .i64 x.2.ino,.int .i64 x.2.kind],.pointer (some ⟨nb,0,none⟩),.pointer (some ⟨f,0,none⟩),.pointer (some ⟨B,0,none⟩),.pointer (some ⟨y,0,none⟩)] w λe w'=>e=.returned (.tuple #[])/\
   (eqS x.2.name n=true->IB w' f x.2.vs/\IB w' B [.int .i64 i,.int .i64 2,.int .i64 x.1]/\IB w' y [.bool true]/\Turn (λk=>k=f\/k=B\/k=y) w w')/\(eqS x.2.name n=false->Below w.1.size w w'):=by
 obtain⟨B1,B2,b2,z2⟩:=qeb w [.int .i64 i,.int .i64 2,.int .i64 x.1] x.2.vs 45 32;have n0:=N.cell 0 rfl;have l0:=N.lt;have l1:=F.lt;have l2:=K.lt;have l3:=I.lt;have f0:=F.cell 0 rfl;have f1:=F.cell 1 rfl;have f2:=F.cell 2 rfl;have g0:=K.cell 0 rfl;have g1:=K.cell 1 rfl;have g2:=K.cell 2 rfl;have i0:=I.cell 0 rfl;have a6:=F.fz 0;have a7:=F.fz 1;have a8:=F.fz 2;have b0:=K.fz 0;have b1:=K.fz 1;have b3:=K.fz 2;have b4:=I.fz 0
 cases he:eqS x.2.name n with
 |false=>
  have hq:(x.2.name.toList==n.toList)=false:=he;go_enter Tryz.func102,Tryz.ntmps102
  go_wp2_with fail
  go_end0
  exact⟨rfl,nofun,λ_=>b2⟩
 |true=>
  obtain rfl:=(q32 _ _).1 he;go_enter Tryz.func102,Tryz.ntmps102
  go_wp2_with fail
  go_region
  obtain⟨G,T⟩:∃u,w.setCells f 0 x.2.vs=u:=⟨_,rfl⟩;obtain⟨J,W⟩:∃u,G.setCells B 0 [.int .i64 i,.int .i64 2,.int .i64 x.1]=u:=⟨_,rfl⟩;obtain⟨E,X⟩:∃u,J.setCells y 0 [.bool true]=u:=⟨_,rfl⟩;have Y:Turn (λk=>k=f) w G:=T▸Vb (S:=λk=>k=f) rfl _ 0 w;have FA:IB G f x.2.vs:=T▸F.all _ rfl;have KA:IB G B [k1,k2,k3]:=K.keep (Y.block B l2 λh=>h1 h.symm);have IA:IB G y [.bool v]:=I.keep (Y.block y l3 λh=>h2 h.symm);have Z:Turn (λk=>k=B) G J:=W▸Vb (S:=λk=>k=B) rfl _ 0 G;have M:IB J B [.int .i64 i,.int .i64 2,.int .i64 x.1]:=W▸KA.all _ rfl;have FB:IB J f x.2.vs:=FA.keep (Z.block f FA.lt λh=>h1 h);have R:IB J y [.bool v]:=IA.keep (Z.block y IA.lt λh=>h3 h.symm);have tC:Turn (λk=>k=y) J E:=X▸Vb (S:=λk=>k=y) rfl _ 0 J;have IC:IB E y [.bool true]:=X▸R.all _ rfl;have FC:IB E f x.2.vs:=FB.keep (tC.block f FB.lt λh=>h2 h);have KC:IB E B [.int .i64 i,.int .i64 2,.int .i64 x.1]:=M.keep (tC.block B M.lt λh=>h3 h);have O:Below E.1.size E ((E.alloc (.cells #[.int .i64 i,.int .i64 2,.int .i64 x.1] 45)).alloc (.cells #[.string x.2.name,.int .i64 x.2.ino,.int .i64 x.2.kind] 32)).drew:=((Qk).alloc (by simp) _).drew;have tw:Turn (λk=>k=f\/k=B\/k=y) w E:=((Y.mono λk h=>.inl h).trans Z λk h=>.inl (.inr (.inl h))).trans tC λk h=>.inl (.inr (.inr h))
  subst X W T;go_end0
  exact⟨rfl,λ_=>⟨FC.below O FC.lt,KC.below O KC.lt,IC.below O IC.lt,tw.trans (Qx O) λ_ h=>.inl h⟩,nofun⟩
def allocs (w:World):List (List Value × TypeId)->World
 |[]=>w
 |r::l=>allocs (w.alloc (.cells r.1.toArray r.2)) l
theorem q61:∀(l:List (List Value × TypeId)) (w:World),Below w.1.size w (allocs w l)/\(allocs w l).1.size=w.1.size+l.length/\∀j r,l[j]?=some r->IB (allocs w l) (w.1.size+j) r.1
 |[],w=>⟨Below.refl _ _,rfl,λj r h=>by simp at h⟩
 |x::l,w=>by
  obtain⟨h1,h2,u⟩:=q61 l (w.alloc (.cells x.1.toArray x.2));have b:Below w.1.size w (w.alloc (.cells x.1.toArray x.2)):=Qk;have e:(w.alloc (.cells x.1.toArray x.2)).1.size=w.1.size+1:=by simp
  refine⟨b.trans (h1.mono b.size),by show (allocs (w.alloc _) l).1.size=_;rw[h2,e,List.length_cons];omega,λj r f=>?_⟩
  cases j with
  |zero=>
   rw[List.getElem?_cons_zero] at f;obtain rfl:=Option.some.inj f;exact (IB.new w x.1 x.2).below h1 (IB.new w x.1 x.2).lt
  |succ j=>
   rw[List.getElem?_cons_succ] at f;have:=u j r f;rw[e,show w.1.size+1+j=w.1.size+(j+1) by omega] at this;exact this
theorem qw4 {F:Func}{p q a:Tmp}{ty u:TypeId}{y B:Addr}{v E:Value}{P:Program}{w:World}{f:Array Value}(h:F.results=#[.cell p ty,.cell q u,.tmp a])(K:f.getD p undef=.pointer (some y))(J:(loadVar ty y).run P w=.ok v w)(I:f.getD q undef=.pointer (some B))(G:(loadVar u B).run P w=.ok E w) :
  (results F f).run P w=.ok (.tuple #[v,E,f.getD a undef]) w:=by
 have e:(results F f).run P w=((asAddr (f.getD p undef)).run P w).andThen λy M=>((loadVar ty y).run P M).andThen λv O=>((asAddr (f.getD q undef)).run P O).andThen λy R=>((loadVar u y).run P R).andThen λE T=>.ok (.tuple #[v,E,f.getD a undef]) T:=by
  simp only[results,h];simp[Sem.run_bind,Result.andThen]
 rw[e,K,I];simp[asAddr,J,G]
def kE (F:Option De):Za:=match F with
 |some x=>x.2
 |none=>Za.zero
def kK (i:Int)(F:Option De):List Value:=match F with
 |some x=>[.int .i64 i,.int .i64 2,.int .i64 x.1]
 |none=>[.int .i64 0,.int .i64 0,.int .i64 0]
def kC (F:Option De):Int:=if F.isSome=true then 0 else 10
def Qbp (n:ByteArray)(i:Int)(b:Nat)(L:List De)(T:Nat->Prop)(w:World):Prop:=
 (T=λk=>k=b+3\/k=b+4\/k=b+5)/\IB w b [.string n]/\IB w (b+3) (kE (Jy n L)).vs/\IB w (b+4) (kK i (Jy n L))/\IB w (b+5) [.bool (Jy n L).isSome]
theorem qrc (n:ByteArray)(i:Int)(b:Nat):Qae 102 #[.pointer (some ⟨b,0,none⟩),.pointer (some ⟨b+3,0,none⟩),.pointer (some ⟨b+4,0,none⟩),.pointer (some ⟨b+5,0,none⟩)] i (Qbp n i b) where
 ent:=enters_of Tryz.func102 (by kernel_rfl) rfl
 keep:=λ⟨h1,h2,B,y,E⟩ f=>⟨h1,h2.below f h2.lt,B.below f B.lt,y.below f y.lt,E.below f E.lt⟩
 call:=by
  rintro L T w x ⟨rfl,h2,B,y,E⟩ _ _;obtain⟨I,J,K,F⟩:∃I J K,kK i (Jy n L)=[I,J,K]:=by
   cases Jy n L with
   |none=>exact⟨_,_,_,rfl⟩
   |some x=>exact⟨_,_,_,rfl⟩
  rw[F] at y;refine (qmv (i:=i) (x:=x) (n:=n) h2 B y E (by omega) (by omega) (by omega)).mono ?_;rintro e w' ⟨rfl,O,hn⟩;refine⟨rfl,(λk=>k=b+3\/k=b+4\/k=b+5),?_⟩
  cases G:eqS x.2.name n with
  |true=>
   obtain⟨R,W,X,M⟩:=O G;have u:Jy n (L++[x])=some x:=by rw[q7r,if_pos G]
   refine⟨⟨rfl,h2.keep (M.block b h2.lt (by rintro (h|h|h)<;>omega)),?_,?_,?_⟩,M,λk F=>.inl F⟩
   ·rw[u];exact R
   ·rw[u];exact W
   ·rw[u];exact X
  |false=>
   have f:=hn G;have u:Jy n (L++[x])=Jy n L:=by rw[q7r,if_neg (by rw[G];exact Bool.false_ne_true)]
   refine⟨⟨rfl,h2.below f h2.lt,?_,?_,?_⟩,Qx f,λk F=>.inl F⟩
   ·rw[u];exact B.below f B.lt
   ·rw[u,F];exact y.below f y.lt
   ·rw[u];exact E.below f E.lt
theorem qmw {w:World}{b c:Nat}{r s vs ks:List Value}(B:IB w b r)(C:IB w c s)(h:b≠c)(h1:vs.length=r.length)(h2:ks.length=s.length):IB ((w.setCells b 0 vs).setCells c 0 ks) b vs/\IB ((w.setCells b 0 vs).setCells c 0 ks) c ks/\Turn (λk=>k=b\/k=c) w ((w.setCells b 0 vs).setCells c 0 ks):=by
 have u:Turn (λk=>k=b) w (w.setCells b 0 vs):=Vb (S:=λk=>k=b) rfl _ 0 w;have y:Turn (λk=>k=c) (w.setCells b 0 vs) ((w.setCells b 0 vs).setCells c 0 ks):=Vb (S:=λk=>k=c) rfl _ 0 _;have f:=B.all vs h1;have E:IB (w.setCells b 0 vs) c s:=C.keep (u.block c C.lt λe=>h e.symm);exact⟨f.keep (y.block b f.lt λe=>h e),E.all ks h2,(u.mono λ_ h=>.inl h).trans y λ_ h=>.inl (.inr h)⟩
theorem qax {w:World}{p:Nat}{R:Int->Nd × Int}{root i:Int}{A C:List Qb}{L:List De}{lim:Int}(T:Told w p R root (A++(Qu i L++C)))(ht:Tab w)(X:Ctx i A C)(hD:Jv L lim)(hl:lim<=2147483648)(n:ByteArray)(F:Option De)(hF:Jy n L=F) :
  Calls Tryz.prog 61 #[.pointer (some ⟨p,0,none⟩),.int .i64 root,.int .i64 i,.string n] w λe w'=>e=.returned (.tuple #[.agg #[.string (kE F).name,.int .i64 (kE F).ino,.int .i64 (kE F).kind],.agg (kK i F).toArray,.int .i64 (kC F)])/\Below w.1.size w w':=by
 obtain⟨W,z1,M⟩:=q61 [([.string n],9),(Za.zero.vs,32),([.int .i64 0,.int .i64 0,.int .i64 0],45),(Za.zero.vs,32),([.int .i64 0,.int .i64 0,.int .i64 0],45),([.bool false],4)] w;have N0:=M 0 _ rfl;have Z:=M 1 _ rfl;have N2:=M 2 _ rfl;have J:=M 3 _ rfl;have K:=M 4 _ rfl;have O:=M 5 _ rfl;obtain⟨w1,Y⟩:∃w1,allocs w [([.string n],9),(Za.zero.vs,32),([.int .i64 0,.int .i64 0,.int .i64 0],45),(Za.zero.vs,32),([.int .i64 0,.int .i64 0,.int .i64 0],45),([.bool false],4)]=w1:=⟨_,rfl⟩;rw[Y] at W z1 N0 Z N2 J K O;have hE:=qaw (T.below W) (ht.below W ht.1) X hD hl (qrc n i w.1.size) (T0:=λk=>k=w.1.size+3\/k=w.1.size+4\/k=w.1.size+5) ⟨rfl,N0,J,K,O⟩ (by rintro k (h|h|h)<;>rw[z1]<;>simp<;>omega);replace hE:=Lib.hid hE;clear M J K O T X hD;go_enter Tryz.func61,Tryz.ntmps61
 go_wp2_with fail
 change Calls _ _ _ (allocs w [([.string n],9),(Za.zero.vs,32),([.int .i64 0,.int .i64 0,.int .i64 0],45),(Za.zero.vs,32),([.int .i64 0,.int .i64 0,.int .i64 0],45),([.bool false],4)]) _;rw[Y];refine hE.out.mono ?_;rintro e G ⟨rfl,T2,⟨rfl,a1,J,K,O⟩,X2,-⟩;rw[hF] at J K O;have u:=Z.keep (X2.block _ Z.lt (by rintro (h|h|h)<;>omega));have E:=N2.keep (X2.block _ N2.lt (by rintro (h|h|h)<;>omega));have B2:Below w.1.size w G:=W.trans (X2.below (by rintro k (h|h|h)<;>omega) W.size);have i0:=O.cell 0 rfl;have r0:=u.cell 0 rfl;have r1:=u.cell 1 rfl;have r2:=u.cell 2 rfl;have s0:=E.cell 0 rfl;have s1:=E.cell 1 rfl;have s2:=E.cell 2 rfl;have q0:=u.fz 0;have q1:=u.fz 1;have q2:=u.fz 2;have p0:=E.fz 0;have p1:=E.fz 1;have p2:=E.fz 2;have a7:=J.cell 0 rfl;have a8:=J.cell 1 rfl;have b0:=J.cell 2 rfl;clear N0 Z N2 a1 W X2 hE hF;have fin:∀(e:Za) (y:Int × Int × Int) (w':World),w'=(G.setCells (w.1.size+1) 0 e.vs).setCells (w.1.size+2) 0 [.int .i64 y.1,.int .i64 y.2.1,.int .i64 y.2.2]->IB w' (w.1.size+1) e.vs/\IB w' (w.1.size+2) [.int .i64 y.1,.int .i64 y.2.1,.int .i64 y.2.2]/\Below w.1.size w w':=by
  rintro e y w' rfl;obtain⟨h1,h2,h3⟩:=qmw (vs:=e.vs) (ks:=[.int .i64 y.1,.int .i64 y.2.1,.int .i64 y.2.2]) u E (by omega) rfl rfl;exact⟨h1,h2,B2.trans (h3.below (B:=w.1.size) (by rintro k (h|h)<;>omega) B2.size)⟩
 cases F with
 |none=>
  obtain⟨I,f⟩:∃I,(G.setCells (w.1.size+1) 0 Za.zero.vs).setCells (w.1.size+2) 0 [.int .i64 0,.int .i64 0,.int .i64 0]=I:=⟨_,rfl⟩;obtain⟨R8,R9,B3⟩:=fin Za.zero (0,0,0) I f.symm;replace fin:=Lib.hid fin;replace f:=Lib.hid f;change G.cell? ⟨w.1.size+5,0,none⟩=some (.bool false) at i0;go_wp2_with fail
  obtain rfl:=f.out;exact bodyPost_ret (qw4 Tryz.results61 rfl (q3n R8) rfl (qe8 R9)) rfl ⟨rfl,B3⟩
 |some x=>
  obtain⟨I,f⟩:∃I,(G.setCells (w.1.size+1) 0 x.2.vs).setCells (w.1.size+2) 0 [.int .i64 i,.int .i64 2,.int .i64 x.1]=I:=⟨_,rfl⟩;obtain⟨R8,R9,B3⟩:=fin x.2 (i,2,x.1) I f.symm;have a2:IB I.drew (w.1.size+1) x.2.vs:=R8.keep rfl;have a6:IB I.drew (w.1.size+2) [.int .i64 i,.int .i64 2,.int .i64 x.1]:=R9.keep rfl;replace fin:=Lib.hid fin;replace f:=Lib.hid f;change G.cell? ⟨w.1.size+5,0,none⟩=some (.bool true) at i0;have b2:=K.cell 0 rfl;have b3:=K.cell 1 rfl;have b4:=K.cell 2 rfl;change G.cell? ⟨w.1.size+3,0,none⟩=some (.string x.2.name) at a7;change G.cell? ⟨w.1.size+3,1,none⟩=some (.int .i64 x.2.ino) at a8;change G.cell? ⟨w.1.size+3,2,none⟩=some (.int .i64 x.2.kind) at b0;go_wp2_with fail
  go_region
  go_wp2;obtain rfl:=f.out;exact bodyPost_ret (qw4 Tryz.results61 rfl (q3n a2) rfl (qe8 a6)) rfl ⟨rfl,B3.drew⟩
theorem qv2 (i:Int)(F:Option De):∃e f u:Int,kK i F=[.int .i64 e,.int .i64 f,.int .i64 u]:=by
 cases F with
 |none=>exact⟨0,0,0,rfl⟩
 |some x=>exact⟨i,2,x.1,rfl⟩
theorem qrd {w:World}{p:Nat}{R:Int->Nd × Int}{root i:Int}{A C:List Qb}{L:List De}{lim:Int}(T:Told w p R root (A++(Qu i L++C)))(ht:Tab w)(X:Ctx i A C)(hD:Jv L lim)(hl:lim<=2147483648)(n:ByteArray)(F:Option De)(hF:Jy n L=F) :
  Calls Tryz.prog 20 #[.pointer (some ⟨p,0,none⟩),.int .i64 root,.int .i64 i,.string n] w λe w'=>e=.returned (.tuple #[.agg #[.string (kE F).name,.int .i64 (kE F).ino,.int .i64 (kE F).kind],.int .i64 (kC F)])/\Below w.1.size w w':=by
 have G:IB (w.alloc (.cells #[.string ⟨#[]⟩,.int .i64 0,.int .i64 0] 32)) w.1.size Za.zero.vs:=IB.new w _ _;have B:Below w.1.size w (w.alloc (.cells #[.string ⟨#[]⟩,.int .i64 0,.int .i64 0] 32)):=Qk;obtain⟨w1,Y⟩:∃w1,w.alloc (.cells #[.string ⟨#[]⟩,.int .i64 0,.int .i64 0] 32)=w1:=⟨_,rfl⟩;rw[Y] at G B;have E:=qax (T.below B) (ht.below B ht.1) X hD hl n F hF;obtain⟨k1,k2,k3,W⟩:=qv2 i F;rw[W] at E;obtain⟨x,hx⟩:∃x,kE F=x:=⟨_,rfl⟩;rw[hx] at E ⊢;replace E:=Lib.hid E;clear T X hD hF W hx;go_enter Tryz.func20,Tryz.ntmps20
 go_wp2_with fail
 refine E.out.mono ?_;rintro e u ⟨rfl,M⟩;have y:=G.below M G.lt;have l2:=y.lt;have r0:=y.cell 0 rfl;have r1:=y.cell 1 rfl;have r2:=y.cell 2 rfl;have q0:=y.fz 0;have q1:=y.fz 1;have q2:=y.fz 2;have I:=B.trans (M.mono B.size);have tA:Turn (λk=>k=w.1.size) u (u.setCells w.1.size 0 x.vs):=Vb (S:=λk=>k=w.1.size) rfl _ 0 u;have K:IB (u.setCells w.1.size 0 x.vs) w.1.size x.vs:=y.all _ rfl;have O:Below (u.setCells w.1.size 0 x.vs).1.size (u.setCells w.1.size 0 x.vs) (((u.setCells w.1.size 0 x.vs).alloc (.cells #[.string x.name,.int .i64 x.ino,.int .i64 x.kind] 32)).alloc (.cells #[.int .i64 k1,.int .i64 k2,.int .i64 k3] 45)):=(Qk).alloc (by simp) _;have RF:=K.below O K.lt;have J:Below w.1.size w (u.setCells w.1.size 0 x.vs):=I.trans (tA.below (λk W=>by omega) I.size);have Z:=J.trans (O.mono J.size);obtain⟨wF,f⟩:∃wF,wF=(((u.setCells w.1.size 0 x.vs).alloc (.cells #[.string x.name,.int .i64 x.ino,.int .i64 x.kind] 32)).alloc (.cells #[.int .i64 k1,.int .i64 k2,.int .i64 k3] 45)):=⟨_,rfl⟩;rw[<-f] at RF Z;replace f:=Lib.hid f;clear K O J tA G B I M E;go_wp2_with fail
 obtain rfl:=f.out;exact bodyPost_ret (qey Tryz.results20 rfl (q3n RF)) rfl ⟨rfl,Z⟩
def Qbo (x:Za)(nb tb xb:Nat)(L:List De)(T:Nat->Prop)(w:World):Prop:=
 (T=λk=>k=nb\/k=tb)/\IB w nb [.int .i64 (Xm L)]/\IB w tb [.bool (Zo x.name L)]/\IB w xb x.vs
theorem qre {i z:Int}{y:De}{x:Za}{nb tb xb:Nat}{v:Bool}{w:World}(hy:0<=y.1/\y.1<2147483648)(h1:nb≠tb)(h2:xb≠nb)(O:xb≠tb)(N:IB w nb [.int .i64 z])(T:IB w tb [.bool v])(X:IB w xb x.vs) :
  Calls Tryz.prog 63 #[.agg #[.int .i64 i,.int .i64 2,.int .i64 y.1],.agg #[.string y.2.name,.int .i64 y.2.ino,.int .i64 y.2.kind],.pointer (some ⟨nb,0,none⟩),.pointer (some ⟨tb,0,none⟩),.pointer (some ⟨xb,0,none⟩)] w λe w'=>e=.returned (.tuple #[])/\
   IB w' nb [.int .i64 (y.1+1)]/\IB w' tb [.bool (v||eqS y.2.name x.name)]/\IB w' xb x.vs/\Turn (λk=>k=nb\/k=tb) w w':=by
 obtain⟨-,-,Z,z2⟩:=qeb w [.int .i64 i,.int .i64 2,.int .i64 y.1] y.2.vs 45 32;have l0:=N.lt;have W:=T.lt;have Y:=X.lt;have n0:=N.cell 0 rfl;have nf:=N.fz 0;have t0:=T.cell 0 rfl;have tf:=T.fz 0;have x0:=X.cell 0 rfl;have hw:IntKind.i64.wrap (y.1+1)=y.1+1:=by simp[IntKind.wrap,IntKind.bits,IntKind.signed];omega
 have fin:∀(r:Bool),let w':=((w.setCell ⟨nb,0,none⟩ (.int .i64 (y.1+1))).setCell ⟨tb,0,none⟩ (.bool r));let B:=(w'.alloc (.cells #[.int .i64 i,.int .i64 2,.int .i64 y.1] 45)).alloc (.cells #[.string y.2.name,.int .i64 y.2.ino,.int .i64 y.2.kind] 32);IB B nb [.int .i64 (y.1+1)]/\IB B tb [.bool r]/\IB B xb x.vs/\Turn (λk=>k=nb\/k=tb) w B:=by
  intro r;have E:Turn (λk=>k=nb) w (w.setCell ⟨nb,0,none⟩ (.int .i64 (y.1+1))):=Ac (S:=λk=>k=nb) _ rfl;have G:=N.set 0 (.int .i64 (y.1+1));have M:=T.keep (E.block tb W λh=>h1 h.symm);have I:=X.keep (E.block xb Y λh=>h2 h);have F:Turn (λk=>k=tb) (w.setCell ⟨nb,0,none⟩ (.int .i64 (y.1+1))) ((w.setCell ⟨nb,0,none⟩ (.int .i64 (y.1+1))).setCell ⟨tb,0,none⟩ (.bool r)):=Ac (S:=λk=>k=tb) _ rfl;have TB:=M.set 0 (.bool r);have f:=G.keep (F.block nb G.lt λh=>h1 h);have J:=I.keep (F.block xb I.lt λh=>O h);have u:Below ((w.setCell ⟨nb,0,none⟩ (.int .i64 (y.1+1))).setCell ⟨tb,0,none⟩ (.bool r)).1.size _ ((((w.setCell ⟨nb,0,none⟩ (.int .i64 (y.1+1))).setCell ⟨tb,0,none⟩ (.bool r)).alloc (.cells #[.int .i64 i,.int .i64 2,.int .i64 y.1] 45)).alloc (.cells #[.string y.2.name,.int .i64 y.2.ino,.int .i64 y.2.kind] 32)):=(Qk).alloc (by simp) _;exact⟨f.below u f.lt,TB.below u TB.lt,J.below u J.lt,(((E.mono λ_ h=>.inl h).trans F λ_ h=>.inl (.inr h)).trans (Qx u) λ_ h=>.inl h)⟩
 replace fin:=Lib.hid fin
 cases v with
 |true=>
  go_enter Tryz.func63,Tryz.ntmps63
  go_wp2_with fail
  go_end0
  exact⟨rfl,fin.out true⟩
 |false=>
  cases K:eqS y.2.name x.name with
  |false=>
   have R:(y.2.name.toList==x.name.toList)=false:=K;go_enter Tryz.func63,Tryz.ntmps63
   go_wp2_with fail
   go_end0
   exact⟨rfl,fin.out false⟩
  |true=>
   have R:(y.2.name.toList==x.name.toList)=true:=K;go_enter Tryz.func63,Tryz.ntmps63
   go_wp2_with fail
   go_end0
   exact⟨rfl,fin.out true⟩
def Gl (b:Nat)(w:World)(d p:Nat)(U Q V:Nat->Prop)(D:DM)(P:Pl):Prop:=
 ∃e S T,Qg b w d p e S T D P/\(∀k,e k->U k)/\(∀k,S k->U k)/\(∀k,Q k->T k)/\∀k,S k->V k
section
variable {b:Nat}{w w':World}{d p:Nat}{U Q V:Nat->Prop}{D:DM}{P:Pl}{H H0:List Int}{m:Nat}{g:Int}{root:Int}{its:List Qb}
theorem Gl.below (h:Gl b w d p U Q V D P)(hb:Below w.1.size w w'):Gl b w' d p U Q V D P:=by
 obtain⟨e,S,T,h1,h2,f,u,y⟩:=h;exact⟨e,S,T,h1.below hb,h2,f,u,y⟩
theorem Ed.Qcz (E:Ed b w d p U D P H m g):Gl b w d p U (λ_=>False) U D P:=by
 obtain⟨e,S,T,h,h0,h1⟩:=E.sys;exact⟨e,S,T,h,h0,h1,λ_ h=>h.elim,h1⟩
def qi6 (b:Nat)(w:World)(d p:Nat)(U Q V:Nat->Prop)(D:DM)(P:Pl)(H0:List Int)(its:List Qb)(m:Nat)(g:Int)(e:Ending)(w':World):Prop:=
 (∃r P',e=.returned (.tuple #[.int .i64 r,.int .i64 0])/\Ai b w w' d p U D P P' r H0 its m g/\Gl b w' d p U Q V D P'/\Turn V w w')\/((∃v,e=.returned (.tuple #[.int .i64 v,.int .i64 6]))/\P.C.free<17)
theorem qko {M:Sp}{K:Ct}{T0 B G:Nat->Prop}(J:Ed b w d p U D P H m g)(h0:∀k,T0 k->U k)(h1:∀k,B k->U k)(Z:∀k,Q k->G k)(O:∀k,B k->V k){E:Option (Pl × Option Int)}(ho:Xz D M K [] H0 P its 17 E)(hl:∀P' r,E=some (P',r)->P.like P')
  {f:FuncId} {u:Array Value} (R:∀P' r,E=some (P',r)->Calls Tryz.prog f u w (Gy b d p T0 B G D w P' r)):Calls Tryz.prog f u w (qi6 b w d p U Q V D P H0 its m g):=by
 rcases ho with⟨P',r,I,F⟩|⟨P',I,hf⟩
 ·refine (R _ _ I).mono ?_;rintro e w' ⟨v,rfl,hv,y,X,Y,td⟩;have:=hv r rfl;subst this;have W:=hl _ _ I;have ext:∀l a t,a∈H0->Qm (P.store D) l a t->Qm (P'.store D) l a t:=λl a t ha ht=>q4k.1 (F.old l a t ha (q4k.2 ht))
  have tr:=qe7.1 F.tree;exact .inl ⟨v,P',rfl,⟨⟨⟨T0,B,G,y,h0,h1⟩,λk T=>⟨(J.low k T).1,by have:=(J.low k T).2;have:=X.size;omega⟩,Y,⟨M,K,F.keep⟩,J.Y0,by rw[W.1];exact J.gen⟩,tr,W,F.n,F.free,ext,X.mono h1⟩,⟨T0,B,G,y,h0,h1,Z,O⟩,X.mono O⟩
 ·refine (R _ _ I).mono ?_;rintro e w' ⟨v,rfl,_,y,X,Y,td⟩;exact .inr ⟨⟨v,rfl⟩,hf⟩
theorem Ed.Et {k:Kd}{v:List UInt8}(E:Ed b w d p U D P (Um root++(nmI ⟨k,v⟩++H0)) m g)(hQ:Gl b w d p U Q V D P)(hb:1<b)(f:Ji (P.store D) root its)(hr:Ql its)(hf:∀x∈its,Zr x)(hx:Zr ⟨k,v⟩)(hdx:Dat (P.tell D) ⟨k,v⟩)(hfew:its.length<1000)(hH0:H0.length<=10000)(VV:Option Addr)(q c:Nat)(hV:Sl w VV q c v)(hVU:v≠[]->∀g,q01 VV=some g->¬U g) :
  Calls Tryz.prog 64 #[.pointer (some ⟨p,0,none⟩),.int .i64 root,.agg #[.int .i64 k.obj,.int .i64 k.kind,.int .i64 k.off],.slice VV q c] w (qi6 b w d p U Q V D P H0 (Xu k v false its) m g):=by
 obtain⟨O,R,T,G,h0,h1,h2,y⟩:=hQ;obtain⟨M,J,K⟩:=E.keep;replace f:=qe7.2 f;have F:q<=28:=by
  have:=hV.len;have:=hx.2;have e:(⟨k,v⟩:Qb).v=v:=rfl;rw[e] at this;omega
 exact qko E h0 h1 h2 y (qut K f hr hf hx (by rw[q2x];exact hdx) hfew hH0) (λ_ _ h=>qr6 h) λP' r e=>quh G hb E.tab E.tidy root k VV q c v (λu X=>hV.turned' X λI g B h=>hVU I g B (h1 g h)) hx.1 F e
theorem Ed.Fp (E:Ed b w d p U D P (Um root++H0) m g)(hQ:Gl b w d p U Q V D P)(hb:1<b)(f:Ji (P.store D) root its)(hr:Ql its)(hf:∀x∈its,Zr x)(k:Kd)(hfew:its.length<1000)(hH0:H0.length<=10000)(hk:∃x∈its,x.k.same k=true) :
  Calls Tryz.prog 66 #[.pointer (some ⟨p,0,none⟩),.int .i64 root,.agg #[.int .i64 k.obj,.int .i64 k.kind,.int .i64 k.off]] w (qi6 b w d p U Q V D P H0 (Ug k its) m g):=by
 obtain⟨R,T,W,I,h0,h1,h2,u⟩:=hQ;obtain⟨O,M,K⟩:=E.keep;replace f:=qe7.2 f;have y:root≠0:=by
  rcases f with⟨rfl,_⟩|⟨l,_,_,h,_⟩
  ·obtain⟨x,J,_⟩:=hk
   cases J
  ·omega
 obtain⟨up,s,F,X,B,G⟩:=quu K f hr hf y k hfew hH0;exact qko E h0 h1 h2 u (G (B.2 hk)) (λ_ _ h=>qr7 h) λP' r e=>qui I hb E.tab E.tidy root k F (B.2 hk) e
end
theorem qv3 {nb tb xb:Nat}(i:Int)(x:Za)(h1:nb≠tb)(h2:xb≠nb)(F:xb≠tb):Qae 63 #[.pointer (some ⟨nb,0,none⟩),.pointer (some ⟨tb,0,none⟩),.pointer (some ⟨xb,0,none⟩)] i (Qbo x nb tb xb) where
 ent:=enters_of Tryz.func63 (by kernel_rfl) rfl
 keep:=λ⟨J,f,u,B⟩ E=>⟨J,f.below E f.lt,u.below E u.lt,B.below E B.lt⟩
 call:=by
  rintro L T w y ⟨rfl,f,u,B⟩ _ I;refine (qre (i:=i) (x:=x) I h1 h2 F f u B).mono ?_;rintro e w' ⟨rfl,K,M,O,R⟩;refine⟨rfl,_,⟨rfl,?_,?_,O⟩,R,λk G=>.inl G⟩
  ·rw[show L++[y]=L++[(y.1,y.2)] from rfl,qcg];exact K
  ·rw[q5y];exact M
section
variable {b:Nat}{w w' w'':World}{d p:Nat}{U Q V:Nat->Prop}{D:DM}{P P':Pl}{H0:List Int}{m:Nat}{g:Int}{root i r:Int}{A C its:List Qb}{L:List De}{lim:Int}
theorem Ed.Oa {H:List Int}(E:Ed b w d p U D P H m g)(hT:Ji (P.store D) root its)(hr:Ql its)(hl:its.length<=150):Told w p (P.store D) root its:=⟨E.src,hT,hr,hl⟩
theorem Ai.fromD (h:Ai b w' w'' d p U D P P' r H0 its m g)(hb:Below w.1.size w w'):Ai b w w'' d p U D P P' r H0 its m g:=
 ⟨h.ed,h.tree,h.like,h.n,h.free,h.old,(Qx hb).trans h.turn λ_ e=>.inl e⟩
theorem qkp (x:Za)(y:x.may=false)(w:World):Calls Tryz.prog 21 #[.pointer (some ⟨p,0,none⟩),.int .i64 root,.int .i64 i,.agg #[.string x.name,.int .i64 x.ino,.int .i64 x.kind]] w λe w'=>e=.returned (.tuple #[.int .i64 0,.int .i64 1])/\Below w.1.size w w':=by
 have f:Below w.1.size w (w.alloc (.cells #[.string x.name,.int .i64 x.ino,.int .i64 x.kind] 32)):=Qk;go_enter Tryz.func21,Tryz.ntmps21
 go_wp2_with fail
 refine (q8a x y _).mono ?_;rintro e B ⟨rfl,u⟩;go_wp2_with fail
 go_ret2;exact⟨rfl,f.trans (u.mono f.size)⟩
theorem qrf (x:Za)(y:x.may=false)(w:World):Calls Tryz.prog 25 #[.pointer (some ⟨p,0,none⟩),.int .i64 root,.int .i64 i,.agg #[.string x.name,.int .i64 x.ino,.int .i64 x.kind]] w λe w'=>e=.returned (.tuple #[.int .i64 0,.int .i64 1])/\Below w.1.size w w':=by
 have f:Below w.1.size w (w.alloc (.cells #[.string x.name,.int .i64 x.ino,.int .i64 x.kind] 32)):=Qk;go_enter Tryz.func25,Tryz.ntmps25
 go_wp2_with fail
 refine (q8a x y _).mono ?_;rintro e B ⟨rfl,u⟩;go_wp2_with fail
 go_ret2;exact⟨rfl,f.trans (u.mono f.size)⟩
def qy0 (b:Nat)(w:World)(d p:Nat)(U Q V:Nat->Prop)(D:DM)(P:Pl)(H0:List Int)(A C:List Qb)(i:Int)(L:List De)(x:Za)(m:Nat)(g:Int)(t:Bool)(e:Ending)(w':World):Prop:=
 (t=true->e=.returned (.tuple #[.int .i64 0,.int .i64 11])/\Below w.1.size w w')/\
 (t=false->∃r P',e=.returned (.tuple #[.int .i64 r,.int .i64 0])/\Ai b w w' d p U D P P' r H0 (A++(Qu i (L++[(Xm L,x)])++C)) m g/\Gl b w' d p U Q V D P'/\Turn V w w')
theorem qv4 (E:Ed b w d p U D P (Um root++H0) m g)(hQ:Gl b w d p U Q V D P)(hb:1<b)(hT:Ji (P.store D) root (A++(Qu i L++C)))(X:Ctx i A C)(Y:Jv L lim)(h0:0<=lim)(hl:lim<=2147483647)(B:(A++(Qu i L++C)).length<=150)(a1:H0.length<=10000)(b6:17<=P.C.free)(x:Za)(hx:x.may=true)(t:Bool)(ht:Zo x.name L=t) :
  Calls Tryz.prog 21 #[.pointer (some ⟨p,0,none⟩),.int .i64 root,.int .i64 i,.agg #[.string x.name,.int .i64 x.ino,.int .i64 x.kind]] w (qy0 b w d p U Q V D P H0 A C i L x m g t):=by
 have hr:=X.Ql Y;have I:IB (w.alloc (.cells #[.string x.name,.int .i64 x.ino,.int .i64 x.kind] 32)) w.1.size x.vs:=IB.new w _ _;have W:Below w.1.size w (w.alloc (.cells #[.string x.name,.int .i64 x.ino,.int .i64 x.kind] 32)):=Qk;have a6:∀k,U k->k<w.1.size:=λk K=>(E.low k K).2
 obtain⟨n0,n1,n2⟩:=Y.next h0;obtain⟨o,ho⟩:∃o,Xm L=o:=⟨_,rfl⟩;have G:=Lib.hid X;have O:=Lib.hid Y;have HT:=Lib.hid hT;have HR:=Lib.hid hr;have u:=Lib.hid B;have HE:=Lib.hid E;have HQ:=Lib.hid hQ;clear X Y hT hr B E hQ;go_enter Tryz.func21,Tryz.ntmps21
 go_wp2_with fail
 generalize w.alloc (.cells #[.string x.name,.int .i64 x.ino,.int .i64 x.kind] 32)=w1 at I W ⊢;refine (q6g x hx w1).mono ?_;rintro e y ⟨VV,q,c,rfl,hV,a8,b2⟩;have B2:=W.trans (b2.mono W.size);have N2:=I.below b2 I.lt;have z1:=I.lt;have z2:=b2.size;obtain⟨J,z3,hN⟩:=q61 [([.int .i64 0],3),([.bool false],4)] y;have R:=hN 0 _ rfl;have T:=hN 1 _ rfl;obtain⟨F,f⟩:∃F,(y.alloc (.cells #[.int .i64 0] 3)).alloc (.cells #[.bool false] 4)=F:=⟨_,rfl⟩;replace J:Below y.1.size y F:=by rw[<-f];exact J
 replace z3:F.1.size=y.1.size+2:=by rw[<-f];exact z3
 replace R:IB F y.1.size [.int .i64 0]:=by rw[<-f];exact R
 replace T:IB F (y.1.size+1) [.bool false]:=by rw[<-f];exact T
 have B3:=B2.trans (J.mono B2.size);have N3:=N2.below J N2.lt;clear hN;have E3:=HE.out.below B3;have Z:=qaw (E3.Oa HT.out HR.out u.out) E3.tab G.out O.out (by omega) (qv3 i x (nb:=y.1.size) (tb:=y.1.size+1) (xb:=w.1.size) (by omega) (by omega) (by omega)) (T0:=λk=>k=y.1.size\/k=y.1.size+1) ⟨rfl,R,T,N3⟩ (by rintro k (h|h)<;>omega);replace Z:=Lib.hid Z;replace f:=Lib.hid f;go_wp2_with fail
 rw[f.out];refine Z.out.mono ?_;rintro e w4 ⟨rfl,T4,⟨rfl,M0,M1,M2⟩,X4,-⟩;have B4:Below w.1.size w w4:=B3.trans (X4.below (by rintro k (h|h)<;>omega) B3.size);rw[ho] at M0;rw[ht] at M1;have m0:=M0.cell 0 rfl;have m1:=M1.cell 0 rfl;clear Z R T I N2 N3
 cases t with
 |true=>
  go_wp2_with fail
  go_ret2;exact⟨λ_=>⟨rfl,B4⟩,nofun⟩
 |false=>
  go_wp2_with fail
  refine (qe9 i o w4).mono ?_;rintro e w5 ⟨rfl,b5⟩;have M:=B4.trans (b5.mono B4.size);have E5:=HE.out.below M;have a7:Sl w5 VV q c x.bytes:=((hV.below J).turned' X4 (λ_ k K=>by
   have:=hV.Qc (by intro h;have:=q9r x;rw[h] at this;simp at this;omega) k K;rintro (h|h)<;>omega)).below b5
  have b7:Xu ⟨i,2,o⟩ x.bytes false (A++(Qu i L++C))=A++(Qu i (L++[(Xm L,x)])++C):=by rw[<-ho];exact G.out.Qbf O.out h0 x
  have b8:(⟨i,2,o⟩:Kd).may=true:=(Kd.Ba _).2 ⟨G.out.one,⟨by show (0:Int)<=2;omega,by show (2:Int)<=255;omega⟩,by show 0<=o;omega,by show o<=2147483647;omega⟩;have b4:Zr ⟨⟨i,2,o⟩,x.bytes⟩:=⟨b8,by
   show x.bytes.length<=28;rw[q9r];have:=of_decide_eq_true (Bool.and_eq_true_iff.1 hx).1;omega⟩
  have hP:=Ed.Et (k:=⟨i,2,o⟩) (v:=x.bytes) (H0:=H0) (root:=root) (show Ed b w5 d p U D P (Um root++(nmI ⟨⟨i,2,o⟩,x.bytes⟩++H0)) m g by rw[qge];exact E5) (HQ.out.below M) hb HT.out HR.out (G.out.fine O.out (by omega)) b4 (qgd i o _) (by have:=u.out;omega) a1 VV q c a7 (λ_ k K hU=>by have:=a8 k K;have:=a6 k hU;have:=W.size;omega);rw[b7] at hP;replace hP:=Lib.hid hP;clear m0 m1 G O HT HR HE u HQ;go_wp2_with fail
  refine hP.out.mono ?_;rintro e w6 (⟨r,P',rfl,N,a2,b0⟩|⟨_,hf⟩)
  ·go_wp2_with fail
   go_ret2;exact⟨nofun,λ_=>⟨r,P',rfl,N.fromD M,a2,(Qx M).trans b0 λ_ h=>.inl h⟩⟩
  ·omega
end
section
variable {b:Nat}{w w' w'':World}{d p:Nat}{U Q V:Nat->Prop}{D:DM}{P P':Pl}{H0:List Int}{m:Nat}{g:Int}{root i r:Int}{A C its:List Qb}{L:List De}{lim:Int}
def qrg (b:Nat)(w:World)(d p:Nat)(U Q V:Nat->Prop)(D:DM)(P:Pl)(H0:List Int)(A C:List Qb)(i:Int)(L:List De)(m:Nat)(g:Int)(F:Option De)(e:Ending)(w':World):Prop:=
 (F=none->e=.returned (.tuple #[.int .i64 0,.int .i64 10])/\Below w.1.size w w')/\
 (F≠none->∃r P',e=.returned (.tuple #[.int .i64 r,.int .i64 0])/\Ai b w w' d p U D P P' r H0 (A++(Qu i L++C)) m g/\Gl b w' d p U Q V D P'/\Turn V w w')
theorem qv5 (E:Ed b w d p U D P (Um root++H0) m g)(hQ:Gl b w d p U Q V D P)(hb:1<b)(hT:Ji (P.store D) root (A++(Qu i L++C)))(X:Ctx i A C)(R:Jv L lim)(h0:0<=lim)(hl:lim<=2147483647)(u:(A++(Qu i L++C)).length<=150)(Y:H0.length<=10000)(a2:17<=P.C.free)(n:ByteArray)(F:Option De)(hF:Jy n L=F) :
  Calls Tryz.prog 22 #[.pointer (some ⟨p,0,none⟩),.int .i64 root,.int .i64 i,.string n] w (qrg b w d p U Q V D P H0 A C i (Fq n L) m g F):=by
 have hr:=X.Ql R;have B:=Lib.hid (qax (E.Oa hT hr u) E.tab X R (by omega) n F hF);have HX:=Lib.hid X;have HD:=Lib.hid R;have HT:=Lib.hid hT;have HR:=Lib.hid hr;have K:=Lib.hid u;have HE:=Lib.hid E;have HQ:=Lib.hid hQ;have HF:=Lib.hid hF;clear X R hT hr u E hF hQ
 cases F with
 |none=>
  have f:=B.out;rw[show kE none=Za.zero from rfl,show kK i none=[.int .i64 0,.int .i64 0,.int .i64 0] from rfl,show kC none=10 from rfl] at f;replace B:=Lib.hid f;clear f;go_enter Tryz.func22,Tryz.ntmps22
  go_wp2_with fail
  refine B.out.mono ?_;rintro e I ⟨rfl,M⟩;have W:Below I.1.size I ((I.alloc (.cells #[.string ⟨#[]⟩,.int .i64 0,.int .i64 0] 32)).alloc (.cells #[.int .i64 0,.int .i64 0,.int .i64 0] 45)):=(Qk).alloc (by simp) _;have J:=M.trans (W.mono M.size);clear B;go_wp2_with fail
  go_ret2;exact⟨λ_=>⟨rfl,J⟩,λh=>absurd rfl h⟩
 |some x=>
  have f:=B.out;rw[show kE (some x)=x.2 from rfl,show kK i (some x)=[.int .i64 i,.int .i64 2,.int .i64 x.1] from rfl,show kC (some x)=0 from rfl] at f;replace B:=Lib.hid f;clear f;go_enter Tryz.func22,Tryz.ntmps22
  go_wp2_with fail
  refine B.out.mono ?_;rintro e I ⟨rfl,M⟩;have W:Below I.1.size I ((I.alloc (.cells #[.string x.2.name,.int .i64 x.2.ino,.int .i64 x.2.kind] 32)).alloc (.cells #[.int .i64 i,.int .i64 2,.int .i64 x.1] 45)):=(Qk).alloc (by simp) _;have J:=M.trans (W.mono M.size);have EF:=HE.out.below J;obtain⟨y,hy,G,_,O⟩:=(q3h n L).resolve_left (λh=>by rw[HF.out] at h;cases h.1);rw[HF.out] at G;obtain rfl:=Option.some.inj G;have T:=EF.Fp (HQ.out.below J) hb HT.out HR.out (HX.out.fine HD.out (by omega)) ⟨i,2,x.1⟩ (by have:=K.out;omega) Y (Ctx.has hy);rw[HX.out.del HD.out hy O] at T;replace T:=Lib.hid T;clear B EF O G;go_wp2_with fail
  refine T.out.mono ?_;rintro e w6 (⟨r,P',rfl,N,Z,a1⟩|⟨_,hf⟩)
  ·go_wp2_with fail
   go_ret2;exact⟨nofun,λ_=>⟨r,P',rfl,N.fromD J,Z,(Qx J).trans a1 λ_ h=>.inl h⟩⟩
  ·omega
theorem qrh (E:Ed b w d p U D P (Um root++H0) m g)(hQ:Gl b w d p U Q V D P)(hb:1<b)(hT:Ji (P.store D) root (A++(Qu i L++C)))(X:Ctx i A C)(hD:Jv L lim)(h0:0<=lim)(hl:lim<=2147483647)(G:(A++(Qu i L++C)).length<=150)(a1:H0.length<=10000)(b5:17<=P.C.free)(x:Za)(hx:x.may=true)(F:Option De)(hF:Jy x.name L=F) :
  Calls Tryz.prog 25 #[.pointer (some ⟨p,0,none⟩),.int .i64 root,.int .i64 i,.agg #[.string x.name,.int .i64 x.ino,.int .i64 x.kind]] w (qrg b w d p U Q V D P H0 A C i (Vw x L) m g F):=by
 have hr:=X.Ql hD;have M:IB (w.alloc (.cells #[.string x.name,.int .i64 x.ino,.int .i64 x.kind] 32)) w.1.size x.vs:=IB.new w _ _;have b1:Below w.1.size w (w.alloc (.cells #[.string x.name,.int .i64 x.ino,.int .i64 x.kind] 32)):=Qk;have a6:∀k,U k->k<w.1.size:=λk hk=>(E.low k hk).2
 have Z:=Lib.hid X;have Y:=Lib.hid hD;have HT:=Lib.hid hT;have HR:=Lib.hid hr;have u:=Lib.hid G;have HE:=Lib.hid E;have HQ:=Lib.hid hQ;have HF:=Lib.hid hF;clear X hD hT hr G E hF hQ;go_enter Tryz.func25,Tryz.ntmps25
 go_wp2_with fail
 generalize w.alloc (.cells #[.string x.name,.int .i64 x.ino,.int .i64 x.kind] 32)=w1 at M b1 ⊢;refine (q6g x hx w1).mono ?_;rintro e w2 ⟨VV,q,c,rfl,hV,a8,b2⟩;have O:=b1.trans (b2.mono b1.size);have N2:=M.below b2 M.lt;have n0:=N2.cell 0 rfl;have z1:=M.lt;have z2:=b2.size;have E2:=HE.out.below O;have B:=Lib.hid (qax (E2.Oa HT.out HR.out u.out) E2.tab Z.out Y.out (by omega) x.name F HF.out);clear E2
 cases F with
 |none=>
  have f:=B.out;rw[show kE none=Za.zero from rfl,show kK i none=[.int .i64 0,.int .i64 0,.int .i64 0] from rfl,show kC none=10 from rfl] at f;replace B:=Lib.hid f;clear f;go_wp2_with fail
  refine B.out.mono ?_;rintro e J ⟨rfl,b3⟩;have R:=O.trans (b3.mono O.size);clear B n0 M N2;have bF:Below J.1.size J ((J.alloc (.cells #[.string ⟨#[]⟩,.int .i64 0,.int .i64 0] 32)).alloc (.cells #[.int .i64 0,.int .i64 0,.int .i64 0] 45)):=(Qk).alloc (by simp) _;have K:=R.trans (bF.mono R.size);go_wp2_with fail
  go_ret2;exact⟨λ_=>⟨rfl,K⟩,λh=>absurd rfl h⟩
 |some y=>
  have f:=B.out;rw[show kE (some y)=y.2 from rfl,show kK i (some y)=[.int .i64 i,.int .i64 2,.int .i64 y.1] from rfl,show kC (some y)=0 from rfl] at f;replace B:=Lib.hid f;clear f;go_wp2_with fail
  refine B.out.mono ?_;rintro e J ⟨rfl,b3⟩;have R:=O.trans (b3.mono O.size);clear B n0 M N2;have bF:Below J.1.size J ((J.alloc (.cells #[.string y.2.name,.int .i64 y.2.ino,.int .i64 y.2.kind] 32)).alloc (.cells #[.int .i64 i,.int .i64 2,.int .i64 y.1] 45)):=(Qk).alloc (by simp) _;have K:=R.trans (bF.mono R.size);have EF:=HE.out.below K;have a7:=(hV.below b3).below bF;obtain⟨z,hz,I,_,W⟩:=(q3h x.name L).resolve_left (λh=>by rw[HF.out] at h;cases h.1);rw[HF.out] at I;obtain rfl:=Option.some.inj I;have T:=Y.out.low _ hz;have b6:(⟨i,2,y.1⟩:Kd).may=true:=(Kd.Ba _).2 ⟨Z.out.one,⟨by show (0:Int)<=2;omega,by show (2:Int)<=255;omega⟩,T.1,by show y.1<=2147483647;omega⟩;have b4:Zr ⟨⟨i,2,y.1⟩,x.bytes⟩:=⟨b6,by
   show x.bytes.length<=28;rw[q9r];have:=of_decide_eq_true (Bool.and_eq_true_iff.1 hx).1;omega⟩
  have hP:=Ed.Et (k:=⟨i,2,y.1⟩) (v:=x.bytes) (H0:=H0) (root:=root) (show Ed b _ d p U D P (Um root++(nmI ⟨⟨i,2,y.1⟩,x.bytes⟩++H0)) m g by rw[qge];exact EF) (HQ.out.below K) hb HT.out HR.out (Z.out.fine Y.out (by omega)) b4 (qgd i y.1 _) (by have:=u.out;omega) a1 VV q c a7 (λ_ k hk hU=>by have:=a8 k hk;have:=a6 k hU;have:=b1.size;omega);rw[Z.out.Qbg Y.out hz W] at hP;replace hP:=Lib.hid hP;clear EF W I;go_wp2_with fail
  refine hP.out.mono ?_;rintro e w6 (⟨r,P',rfl,N,a2,b0⟩|⟨_,hf⟩)
  ·go_wp2_with fail
   go_ret2;exact⟨nofun,λ_=>⟨r,P',rfl,N.fromD K,a2,(Qx K).trans b0 λ_ h=>.inl h⟩⟩
  ·omega
end
