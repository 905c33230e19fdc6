/- The code's dir: each, with whatever visits the entries -/
import Derived.Test.YthkfkhejjmhomaaGreatDoorDz41
namespace Go.Proofs.YthkfkhejjmhomaaGreatDoor
open Go Go.RowKit Go.Proofs
set_option maxHeartbeats 16000000
set_option maxRecDepth 100000
theorem Qi5 {w:World}{b:Nat}{x y z:Int}(H:IB w b [.int .i64 x,.int .i64 y,.int .i64 z]):(loadVar 45 ⟨b,0,none⟩).run Tryz.prog w=.ok (.agg #[.int .i64 x,.int .i64 y,.int .i64 z]) w:=
 run_loadVar_mid w b 0 45 _ _ H.range Tryz.underlying45 rfl (by kernel_rfl)
theorem Qih (a b:Int)(w:World):Calls Tryz.prog 65 #[.int .i64 a,.int .i64 b] w λe w'=>e=.returned (.agg #[.int .i64 a,.int .i64 2,.int .i64 b])/\Below w.1.size w w':=by
 go_enter Tryz.func65,Tryz.ntmps65
 go_wp2;exact bodyPost_ret (Zai Tryz.results65 rfl (Qi5 (IB.new w [.int .i64 a,.int .i64 2,.int .i64 b] 45))) rfl ⟨rfl,Ib⟩
structure Zbp (f:Nat)(cap:Array Value)(i:Int)(Inv:List De->(Nat->Prop)->World->Prop):Prop where
 ent:∀(args:Array Value) (w:World),(callFunc f args).run Tryz.prog w=.ok (.enter f args) w
 keep:∀{L T w w'},Inv L T w->Below w.heap.size w w'->Inv L T w'
 call:∀{L T w} (x:De),Inv L T w->L.length<=200->0<=x.1/\x.1<2147483648->
  Calls Tryz.prog f (#[.agg #[.int .i64 i,.int .i64 2,.int .i64 x.1],.agg #[.string x.2.name,.int .i64 x.2.ino,.int .i64 x.2.kind]]++cap) w λe w'=>e=.returned (.tuple #[])/\∃T',Inv (L++[x]) T' w'/\Turn T w w'/\∀k,T' k->T k\/w.heap.size<=k
def Qrf (L:List De)(j:Nat):De:=L.getD j (0,Wh.zero)
theorem Qid {L:List De}{j:Nat}(h:j<L.length):L[j]?=some (Qrf L j):=by unfold Qrf;simp[List.getD,h]
theorem Qob {L:List De}{j:Nat}(h:j<L.length):Qrf L j∈L:=List.mem_of_getElem? (Qid h)
theorem Zdl {L:List De}{j:Nat}(h:j<L.length):L.take (j+1)=L.take j++[Qrf L j]:=by
 rw[List.take_add_one,Qid h];rfl
theorem Zck {L:List De}{i:Int}{j:Nat}(h:j<L.length):Qx (Lc i L) j=Qbo i (Qrf L j):=by
 have h1:(Lc i L)[j]?=some (Qbo i (Qrf L j)):=by unfold Lc;rw[List.getElem?_map,Qid h];rfl
 have h2:=Ae (xs:=Lc i L) (by rw[Ru];exact h);rw[h1] at h2;exact (Option.some.inj h2).symm
theorem Qgf {w:World}{p:Nat}{R:Int->Nd × Int}{root i:Int}{A C:List Qq}{L:List De}{lim:Int}{f:Nat}{cap:Array Value}{B:List De->(Nat->Prop)->World->Prop}{T0:Nat->Prop}
  (T:Told w p R root (A++(Lc i L++C))) (ht:Tab w) (X:Ctx i A C) (hD:Ov L lim) (hl:lim<=2147483648) (V:Zbp f cap i B) (hI:B [] T0 w) (b5:∀k,T0 k->k<w.1.size) :
  Calls Tryz.prog 49 #[.pointer (some ⟨p,0,none⟩),.int .i64 root,.int .i64 i,.func (.func f) #[] cap] w λe w'=>e=.returned (.int .i64 0)/\∃T,B L T w'/\Turn T0 w w'/\∀k,T k->T0 k\/w.1.size<=k:=by
 have a7:=T.len;have c9:L.length<=150:=by rw[List.length_append,List.length_append,Ru] at a7;omega
 have V':=Lib.hid V;have c8:=V.ent;have HX:=Lib.hid X;have HT:=Lib.hid T;clear V T X;go_enter Tryz.func49,Tryz.ntmps49
 go_wp2_with fail
 refine (Qih i 0 w).mono ?_;rintro e wa ⟨rfl,ba⟩;go_wp2_with fail
 refine (Qih i 2147483647 wa).mono ?_;rintro e wb ⟨rfl,bb⟩;have Z:Below w.1.size w wb:=ba.trans (bb.mono ba.size);have tb:=ht.below Z ht.1;have a8:=(HT.out.below Z).Zdc tb ⟨i,2,0⟩ ⟨i,2,2147483647⟩ 2147483647 (Lc i L) (by rw[HX.out.within hD hl];exact List.take_of_length_le (by rw[Ru];have:(2147483647:Int).toNat=2147483647:=rfl;omega));go_wp2_with fail
 refine a8.mono ?_;rintro e w1 ⟨A1,n1,c1,rfl,y,a2⟩;have c6:=Z.size;have J:Below w.1.size w w1:=Z.trans (a2.mono c6);have hn:=y.Qaf.len;rw[Ru] at hn;obtain⟨c7,b8⟩:=y.Qaf.bounds;unfold maxLen at b8;have b2:=V'.out.keep hI J;clear hI a8 tb ba bb Z a2;go_wp2_with fail
 go_loopw [30] (λs wr=>∃(j:Nat) (T:Nat->Prop),j<=n1/\s=.int .i64 (j:Int)/\B (L.take j) T wr/\Turn T0 w1 wr/\∀k,T k->T0 k\/w1.1.size<=k) (λs _=>n1-(intOf s).toNat)
 case atStart=>exact⟨0,T0,Nat.zero_le _,rfl,b2,Turn.refl _ _,λk u=>.inl u⟩
 case round=>
  obtain⟨j,T,hj,rfl,E,hX,I⟩:=hrel;by_cases b7:j<n1
  ·have F:j<L.length:=by omega
   have z:=y.low hX (λk u=>by have:=b5 k u;omega);obtain⟨gb,o,W,M,Y,rfl,hg,x0,x1,x2,x3,O⟩:=z.Qaf.cell b7;rw[Zck F] at x0 x1 x2 O;have b1:=hD.low _ (Qob F);have q:=hD.may _ (Qob F);have b0:=Zdl F;obtain⟨x,hx⟩:∃x,Qrf L j=x:=⟨_,rfl⟩;rw[hx] at x0 x1 x2 O b1 q b0;change wr.cell? ⟨gb,o+j*4,none⟩=some (.int .i64 i) at x0;change wr.cell? ⟨gb,o+j*4+1,none⟩=some (.int .i64 2) at x1;change wr.cell? ⟨gb,o+j*4+2,none⟩=some (.int .i64 x.1) at x2;change Sl wr W M Y x.2.bytes at O;have b9:M<=1000000:=by have:=O.len;rw[Qhv] at this;have h2:=(Bool.and_eq_true_iff.1 q).1;have h3:=of_decide_eq_true h2;omega
   obtain⟨a6,G⟩:=Qyf x.2 q;have e0:(0:Int)<=(j:Int):=by omega
   have e1:(j:Int)<(n1:Int):=by omega
   have a1:=Lib.hid E;clear E z hx q;have bx:Below wr.1.size wr (wr.alloc (.cells #[.int .i64 i,.int .i64 2,.int .i64 x.1,.slice W M Y] 50)):=Ib;have K:=O.below bx;have Kx:IB (wr.alloc (.cells #[.int .i64 i,.int .i64 2,.int .i64 x.1,.slice W M Y] 50)) wr.1.size [.int .i64 i,.int .i64 2,.int .i64 x.1,.slice W M Y]:=IB.new wr _ _;go_wp2_with fail
   generalize wr.alloc (.cells #[.int .i64 i,.int .i64 2,.int .i64 x.1,.slice W M Y] 50)=wx at bx K Kx ⊢;refine (Qhn W M Y x.2.bytes wx K b9).mono ?_;rw[(Qik G).1,(Qik G).2,a6];rintro e w3 ⟨rfl,b3⟩;have K3:=Kx.below b3 Kx.lt;have z3:=K3.lt;have k0:=K3.cell 0 rfl;have k1:=K3.cell 1 rfl;have k2:=K3.cell 2 rfl;clear x0 x1 x2 x3 O K Kx;have b4:Below w3.1.size w3 (w3.alloc (.cells #[.string x.2.name,.int .i64 x.2.ino,.int .i64 x.2.kind] 32)):=Ib;go_wp2_with fail
   generalize w3.alloc (.cells #[.string x.2.name,.int .i64 x.2.ino,.int .i64 x.2.kind] 32)=w4 at b4 ⊢;have H:Below wr.1.size wr w4:=bx.trans ((b3.mono bx.size).trans (b4.mono (Nat.le_trans bx.size b3.size)));have z4:=H.size;refine (V'.out.call x (V'.out.keep a1.out H) (by rw[List.length_take];omega) ⟨b1.1,by omega⟩).mono ?_;rintro e w5 ⟨rfl,T5,I5,X5,b6⟩;clear k0 k1 k2 a1;go_wp2_with fail
   refine⟨⟨j+1,T5,by omega,rfl,by rw[b0];exact I5,?_,?_⟩,by simp[intOf];omega⟩
   ·exact (hX.trans (Uk (S:=T0) H) λ_ h=>.inl h).trans X5 λk u=>I k u
   ·intro k u;rcases b6 k u with h|h
    ·exact I k h
    ·have:=hX.size;exact .inr (by omega)
  ·obtain rfl:j=n1:=by omega
   have e1:¬(j:Int)<(j:Int):=by omega
   go_wp2_with fail
   go_ret;refine⟨rfl,T,?_,?_,?_⟩
   ·rw[List.take_of_length_le (by omega)] at E;exact E
   ·exact (Uk J).trans hX λk u=>.inl u
   ·exact λk u=>(I k u).imp id λh=>by have:=J.size;omega
theorem Qj9 (w:World)(r s:List Value)(t u:TypeId):IB ((w.alloc (.cells r.toArray t)).alloc (.cells s.toArray u)) w.1.size r/\IB ((w.alloc (.cells r.toArray t)).alloc (.cells s.toArray u)) (w.1.size+1) s/\Below w.1.size w ((w.alloc (.cells r.toArray t)).alloc (.cells s.toArray u))/\((w.alloc (.cells r.toArray t)).alloc (.cells s.toArray u)).1.size=w.1.size+2:=by
 have b:Below (w.alloc (.cells r.toArray t)).1.size (w.alloc (.cells r.toArray t)) ((w.alloc (.cells r.toArray t)).alloc (.cells s.toArray u)):=Ib;have h1:IB (w.alloc (.cells r.toArray t)) w.1.size r:=IB.new w r t;have h2:IB ((w.alloc (.cells r.toArray t)).alloc (.cells s.toArray u)) (w.alloc (.cells r.toArray t)).1.size s:=IB.new _ s u;have e:(w.alloc (.cells r.toArray t)).1.size=w.1.size+1:=by simp
 have f:Below w.1.size w (w.alloc (.cells r.toArray t)):=Ib;exact⟨h1.below b h1.lt,by rw[<-e];exact h2,f.trans (b.mono f.size),by simp⟩
theorem Qrh {i:Int}{x:De}{n:ByteArray}{nb f y q:Nat}{w:World}{a1 a2 a3 k1 k2 k3:Value}{v:Bool}(N:IB w nb [.string n])(F:IB w f [a1,a2,a3])(K:IB w y [k1,k2,k3])(I:IB w q [.bool v])(h1:f≠y)(h2:f≠q)(h3:y≠q) :
  Calls Tryz.prog 102 #[.agg #[.int .i64 i,.int .i64 2,.int .i64 x.1],.agg #[.string x.2.name,.int .i64 x.2.ino,.int .i64 x.2.kind],.pointer (some ⟨nb,0,none⟩),.pointer (some ⟨f,0,none⟩),.pointer (some ⟨y,0,none⟩),.pointer (some ⟨q,0,none⟩)] w λe w'=>e=.returned (.tuple #[])/\
   (eqS x.2.name n=true->IB w' f x.2.vs/\IB w' y [.int .i64 i,.int .i64 2,.int .i64 x.1]/\IB w' q [.bool true]/\Turn (λk=>k=f\/k=y\/k=q) w w')/\(eqS x.2.name n=false->Below w.1.size w w'):=by
 obtain⟨B1,B2,b2,z2⟩:=Qj9 w [.int .i64 i,.int .i64 2,.int .i64 x.1] x.2.vs 45 32;have n0:=N.cell 0 rfl;have l0:=N.lt;have l1:=F.lt;have l2:=K.lt;have l3:=I.lt;have f0:=F.cell 0 rfl;have f1:=F.cell 1 rfl;have f2:=F.cell 2 rfl;have g0:=K.cell 0 rfl;have g1:=K.cell 1 rfl;have g2:=K.cell 2 rfl;have i0:=I.cell 0 rfl;have a6:=F.fz 0;have a7:=F.fz 1;have a8:=F.fz 2;have b0:=K.fz 0;have b1:=K.fz 1;have b3:=K.fz 2;have b4:=I.fz 0
 cases he:eqS x.2.name n with
 |false=>
  have hq:(x.2.name.toList==n.toList)=false:=he;go_enter Tryz.func102,Tryz.ntmps102
  go_wp2_with fail
  go_end0
  exact⟨rfl,nofun,λ_=>b2⟩
 |true=>
  obtain rfl:=(Qa5 _ _).1 he;go_enter Tryz.func102,Tryz.ntmps102
  go_wp2_with fail
  go_region
  obtain⟨B,M⟩:∃u,w.setCells f 0 x.2.vs=u:=⟨_,rfl⟩;obtain⟨E,O⟩:∃u,B.setCells y 0 [.int .i64 i,.int .i64 2,.int .i64 x.1]=u:=⟨_,rfl⟩;obtain⟨z,R⟩:∃u,E.setCells q 0 [.bool true]=u:=⟨_,rfl⟩;have T:Turn (λk=>k=f) w B:=M▸Gg (S:=λk=>k=f) rfl _ 0 w;have Y:IB B f x.2.vs:=M▸F.all _ rfl;have KA:IB B y [k1,k2,k3]:=K.keep (T.block y l2 λh=>h1 h.symm);have IA:IB B q [.bool v]:=I.keep (T.block q l3 λh=>h2 h.symm);have W:Turn (λk=>k=y) B E:=O▸Gg (S:=λk=>k=y) rfl _ 0 B;have G:IB E y [.int .i64 i,.int .i64 2,.int .i64 x.1]:=O▸KA.all _ rfl;have Z:IB E f x.2.vs:=Y.keep (W.block f Y.lt λh=>h1 h);have J:IB E q [.bool v]:=IA.keep (W.block q IA.lt λh=>h3 h.symm);have X:Turn (λk=>k=q) E z:=R▸Gg (S:=λk=>k=q) rfl _ 0 E;have IC:IB z q [.bool true]:=R▸J.all _ rfl;have FC:IB z f x.2.vs:=Z.keep (X.block f Z.lt λh=>h2 h);have KC:IB z y [.int .i64 i,.int .i64 2,.int .i64 x.1]:=G.keep (X.block y G.lt λh=>h3 h);have H:Below z.1.size z ((z.alloc (.cells #[.int .i64 i,.int .i64 2,.int .i64 x.1] 45)).alloc (.cells #[.string x.2.name,.int .i64 x.2.ino,.int .i64 x.2.kind] 32)).drew:=((Ib).alloc (by simp) _).drew;have tw:Turn (λk=>k=f\/k=y\/k=q) w z:=((T.mono λk h=>.inl h).trans W λk h=>.inl (.inr (.inl h))).trans X λk h=>.inl (.inr (.inr h))
  subst R O M;go_end0
  exact⟨rfl,λ_=>⟨FC.below H FC.lt,KC.below H KC.lt,IC.below H IC.lt,tw.trans (Uk H) λ_ h=>.inl h⟩,nofun⟩
def allocs (w:World):List (List Value × TypeId)->World
 |[]=>w
 |r::l=>allocs (w.alloc (.cells r.1.toArray r.2)) l
theorem Qc0:∀(l:List (List Value × TypeId)) (w:World),Below w.1.size w (allocs w l)/\(allocs w l).1.size=w.1.size+l.length/\∀j r,l[j]?=some r->IB (allocs w l) (w.1.size+j) r.1
 |[],w=>⟨Below.refl _ _,rfl,λj r h=>by simp at h⟩
 |x::l,w=>by
  obtain⟨h1,h2,q⟩:=Qc0 l (w.alloc (.cells x.1.toArray x.2));have b:Below w.1.size w (w.alloc (.cells x.1.toArray x.2)):=Ib;have e:(w.alloc (.cells x.1.toArray x.2)).1.size=w.1.size+1:=by simp
  refine⟨b.trans (h1.mono b.size),by show (allocs (w.alloc _) l).1.size=_;rw[h2,e,List.length_cons];omega,λj r f=>?_⟩
  cases j with
  |zero=>
   rw[List.getElem?_cons_zero] at f;obtain rfl:=Option.some.inj f;exact (IB.new w x.1 x.2).below h1 (IB.new w x.1 x.2).lt
  |succ j=>
   rw[List.getElem?_cons_succ] at f;have:=q j r f;rw[e,show w.1.size+1+j=w.1.size+(j+1) by omega] at this;exact this
theorem Zaj {E:Func}{p q a:Tmp}{ty u:TypeId}{y z:Addr}{v B:Value}{P:Program}{w:World}{f:Array Value}(h:E.results=#[.cell p ty,.cell q u,.tmp a])(I:f.getD p undef=.pointer (some y))(H:(loadVar ty y).run P w=.ok v w)(G:f.getD q undef=.pointer (some z))(F:(loadVar u z).run P w=.ok B w) :
  (results E f).run P w=.ok (.tuple #[v,B,f.getD a undef]) w:=by
 have e:(results E f).run P w=((asAddr (f.getD p undef)).run P w).andThen λy J=>((loadVar ty y).run P J).andThen λv K=>((asAddr (f.getD q undef)).run P K).andThen λy M=>((loadVar u y).run P M).andThen λB O=>.ok (.tuple #[v,B,f.getD a undef]) O:=by
  simp only[results,h];simp[Sem.run_bind,Result.andThen]
 rw[e,I,G];simp[asAddr,H,F]
def kE (F:Option De):Wh:=match F with
 |some x=>x.2
 |none=>Wh.zero
def kK (i:Int)(F:Option De):List Value:=match F with
 |some x=>[.int .i64 i,.int .i64 2,.int .i64 x.1]
 |none=>[.int .i64 0,.int .i64 0,.int .i64 0]
def kC (F:Option De):Int:=if F.isSome=true then 0 else 10
def Zfi (n:ByteArray)(i:Int)(b:Nat)(L:List De)(T:Nat->Prop)(w:World):Prop:=
 (T=λk=>k=b+3\/k=b+4\/k=b+5)/\IB w b [.string n]/\IB w (b+3) (kE (Ol n L)).vs/\IB w (b+4) (kK i (Ol n L))/\IB w (b+5) [.bool (Ol n L).isSome]
theorem Qv9 (n:ByteArray)(i:Int)(b:Nat):Zbp 102 #[.pointer (some ⟨b,0,none⟩),.pointer (some ⟨b+3,0,none⟩),.pointer (some ⟨b+4,0,none⟩),.pointer (some ⟨b+5,0,none⟩)] i (Zfi n i b) where
 ent:=enters_of Tryz.func102 (by kernel_rfl) rfl
 keep:=λ⟨h1,h2,y,u,z⟩ f=>⟨h1,h2.below f h2.lt,y.below f y.lt,u.below f u.lt,z.below f z.lt⟩
 call:=by
  rintro L T w x ⟨rfl,h2,y,u,z⟩ _ _;obtain⟨F,G,H,B⟩:∃F G H,kK i (Ol n L)=[F,G,H]:=by
   cases Ol n L with
   |none=>exact⟨_,_,_,rfl⟩
   |some x=>exact⟨_,_,_,rfl⟩
  rw[B] at u;refine (Qrh (i:=i) (x:=x) (n:=n) h2 y u z (by omega) (by omega) (by omega)).mono ?_;rintro e w' ⟨rfl,J,hn⟩;refine⟨rfl,(λk=>k=b+3\/k=b+4\/k=b+5),?_⟩
  cases E:eqS x.2.name n with
  |true=>
   obtain⟨K,M,O,I⟩:=J E;have q:Ol n (L++[x])=some x:=by rw[Qb8,if_pos E]
   refine⟨⟨rfl,h2.keep (I.block b h2.lt (by rintro (h|h|h)<;>omega)),?_,?_,?_⟩,I,λk B=>.inl B⟩
   ·rw[q];exact K
   ·rw[q];exact M
   ·rw[q];exact O
  |false=>
   have f:=hn E;have q:Ol n (L++[x])=Ol n L:=by rw[Qb8,if_neg (by rw[E];exact Bool.false_ne_true)]
   refine⟨⟨rfl,h2.below f h2.lt,?_,?_,?_⟩,Uk f,λk B=>.inl B⟩
   ·rw[q];exact y.below f y.lt
   ·rw[q,B];exact u.below f u.lt
   ·rw[q];exact z.below f z.lt
theorem Qs5 {w:World}{b c:Nat}{r s vs ks:List Value}(B:IB w b r)(C:IB w c s)(h:b≠c)(h1:vs.length=r.length)(h2:ks.length=s.length):IB ((w.setCells b 0 vs).setCells c 0 ks) b vs/\IB ((w.setCells b 0 vs).setCells c 0 ks) c ks/\Turn (λk=>k=b\/k=c) w ((w.setCells b 0 vs).setCells c 0 ks):=by
 have q:Turn (λk=>k=b) w (w.setCells b 0 vs):=Gg (S:=λk=>k=b) rfl _ 0 w;have u:Turn (λk=>k=c) (w.setCells b 0 vs) ((w.setCells b 0 vs).setCells c 0 ks):=Gg (S:=λk=>k=c) rfl _ 0 _;have f:=B.all vs h1;have y:IB (w.setCells b 0 vs) c s:=C.keep (q.block c C.lt λe=>h e.symm);exact⟨f.keep (u.block b f.lt λe=>h e),y.all ks h2,(q.mono λ_ h=>.inl h).trans u λ_ h=>.inl (.inr h)⟩
theorem Qk3 {w:World}{p:Nat}{R:Int->Nd × Int}{root i:Int}{A C:List Qq}{L:List De}{lim:Int}(T:Told w p R root (A++(Lc i L++C)))(ht:Tab w)(X:Ctx i A C)(hD:Ov L lim)(hl:lim<=2147483648)(n:ByteArray)(F:Option De)(hF:Ol n L=F) :
  Calls Tryz.prog 61 #[.pointer (some ⟨p,0,none⟩),.int .i64 root,.int .i64 i,.string n] w λe w'=>e=.returned (.tuple #[.agg #[.string (kE F).name,.int .i64 (kE F).ino,.int .i64 (kE F).kind],.agg (kK i F).toArray,.int .i64 (kC F)])/\Below w.1.size w w':=by
 obtain⟨K,z1,I⟩:=Qc0 [([.string n],9),(Wh.zero.vs,32),([.int .i64 0,.int .i64 0,.int .i64 0],45),(Wh.zero.vs,32),([.int .i64 0,.int .i64 0,.int .i64 0],45),([.bool false],4)] w;have N0:=I 0 _ rfl;have O:=I 1 _ rfl;have W:=I 2 _ rfl;have G:=I 3 _ rfl;have H:=I 4 _ rfl;have J:=I 5 _ rfl;obtain⟨w1,M⟩:∃w1,allocs w [([.string n],9),(Wh.zero.vs,32),([.int .i64 0,.int .i64 0,.int .i64 0],45),(Wh.zero.vs,32),([.int .i64 0,.int .i64 0,.int .i64 0],45),([.bool false],4)]=w1:=⟨_,rfl⟩;rw[M] at K z1 N0 O W G H J;have Z:=Qgf (T.below K) (ht.below K ht.1) X hD hl (Qv9 n i w.1.size) (T0:=λk=>k=w.1.size+3\/k=w.1.size+4\/k=w.1.size+5) ⟨rfl,N0,G,H,J⟩ (by rintro k (h|h|h)<;>rw[z1]<;>simp<;>omega);replace Z:=Lib.hid Z;clear I G H J T X hD;go_enter Tryz.func61,Tryz.ntmps61
 go_wp2_with fail
 change Calls _ _ _ (allocs w [([.string n],9),(Wh.zero.vs,32),([.int .i64 0,.int .i64 0,.int .i64 0],45),(Wh.zero.vs,32),([.int .i64 0,.int .i64 0,.int .i64 0],45),([.bool false],4)]) _;rw[M];refine Z.out.mono ?_;rintro e z ⟨rfl,T2,⟨rfl,a1,G,H,J⟩,Y,-⟩;rw[hF] at G H J;have q:=O.keep (Y.block _ O.lt (by rintro (h|h|h)<;>omega));have u:=W.keep (Y.block _ W.lt (by rintro (h|h|h)<;>omega));have B2:Below w.1.size w z:=K.trans (Y.below (by rintro k (h|h|h)<;>omega) K.size);have i0:=J.cell 0 rfl;have r0:=q.cell 0 rfl;have r1:=q.cell 1 rfl;have r2:=q.cell 2 rfl;have s0:=u.cell 0 rfl;have s1:=u.cell 1 rfl;have s2:=u.cell 2 rfl;have q0:=q.fz 0;have q1:=q.fz 1;have q2:=q.fz 2;have p0:=u.fz 0;have p1:=u.fz 1;have p2:=u.fz 2;have a7:=G.cell 0 rfl;have a8:=G.cell 1 rfl;have b0:=G.cell 2 rfl;clear N0 O W a1 K Y Z hF;have fin:∀(e:Wh) (y:Int × Int × Int) (w':World),w'=(z.setCells (w.1.size+1) 0 e.vs).setCells (w.1.size+2) 0 [.int .i64 y.1,.int .i64 y.2.1,.int .i64 y.2.2]->IB w' (w.1.size+1) e.vs/\IB w' (w.1.size+2) [.int .i64 y.1,.int .i64 y.2.1,.int .i64 y.2.2]/\Below w.1.size w w':=by
  rintro e y w' rfl;obtain⟨h1,h2,h3⟩:=Qs5 (vs:=e.vs) (ks:=[.int .i64 y.1,.int .i64 y.2.1,.int .i64 y.2.2]) q u (by omega) rfl rfl;exact⟨h1,h2,B2.trans (h3.below (B:=w.1.size) (by rintro k (h|h)<;>omega) B2.size)⟩
 cases F with
 |none=>
  obtain⟨E,f⟩:∃E,(z.setCells (w.1.size+1) 0 Wh.zero.vs).setCells (w.1.size+2) 0 [.int .i64 0,.int .i64 0,.int .i64 0]=E:=⟨_,rfl⟩;obtain⟨R8,R9,B3⟩:=fin Wh.zero (0,0,0) E f.symm;replace fin:=Lib.hid fin;replace f:=Lib.hid f;change z.cell? ⟨w.1.size+5,0,none⟩=some (.bool false) at i0;go_wp2_with fail
  obtain rfl:=f.out;exact bodyPost_ret (Zaj Tryz.results61 rfl (Qav R8) rfl (Qi5 R9)) rfl ⟨rfl,B3⟩
 |some x=>
  obtain⟨E,f⟩:∃E,(z.setCells (w.1.size+1) 0 x.2.vs).setCells (w.1.size+2) 0 [.int .i64 i,.int .i64 2,.int .i64 x.1]=E:=⟨_,rfl⟩;obtain⟨R8,R9,B3⟩:=fin x.2 (i,2,x.1) E f.symm;have a2:IB E.drew (w.1.size+1) x.2.vs:=R8.keep rfl;have a6:IB E.drew (w.1.size+2) [.int .i64 i,.int .i64 2,.int .i64 x.1]:=R9.keep rfl;replace fin:=Lib.hid fin;replace f:=Lib.hid f;change z.cell? ⟨w.1.size+5,0,none⟩=some (.bool true) at i0;have b2:=H.cell 0 rfl;have b3:=H.cell 1 rfl;have b4:=H.cell 2 rfl;change z.cell? ⟨w.1.size+3,0,none⟩=some (.string x.2.name) at a7;change z.cell? ⟨w.1.size+3,1,none⟩=some (.int .i64 x.2.ino) at a8;change z.cell? ⟨w.1.size+3,2,none⟩=some (.int .i64 x.2.kind) at b0;go_wp2_with fail
  go_region
  go_wp2;obtain rfl:=f.out;exact bodyPost_ret (Zaj Tryz.results61 rfl (Qav a2) rfl (Qi5 a6)) rfl ⟨rfl,B3.drew⟩
theorem Qy3 (i:Int)(F:Option De):∃e f q:Int,kK i F=[.int .i64 e,.int .i64 f,.int .i64 q]:=by
 cases F with
 |none=>exact⟨0,0,0,rfl⟩
 |some x=>exact⟨i,2,x.1,rfl⟩
theorem Qu4 {w:World}{p:Nat}{R:Int->Nd × Int}{root i:Int}{A C:List Qq}{L:List De}{lim:Int}(T:Told w p R root (A++(Lc i L++C)))(Z:Tab w)(X:Ctx i A C)(Y:Ov L lim)(hl:lim<=2147483648)(n:ByteArray)(F:Option De)(hF:Ol n L=F) :
  Calls Tryz.prog 20 #[.pointer (some ⟨p,0,none⟩),.int .i64 root,.int .i64 i,.string n] w λe w'=>e=.returned (.tuple #[.agg #[.string (kE F).name,.int .i64 (kE F).ino,.int .i64 (kE F).kind],.int .i64 (kC F)])/\Below w.1.size w w':=by
 have B:IB (w.alloc (.cells #[.string ⟨#[]⟩,.int .i64 0,.int .i64 0] 32)) w.1.size Wh.zero.vs:=IB.new w _ _;have y:Below w.1.size w (w.alloc (.cells #[.string ⟨#[]⟩,.int .i64 0,.int .i64 0] 32)):=Ib;obtain⟨w1,M⟩:∃w1,w.alloc (.cells #[.string ⟨#[]⟩,.int .i64 0,.int .i64 0] 32)=w1:=⟨_,rfl⟩;rw[M] at B y;have z:=Qk3 (T.below y) (Z.below y Z.1) X Y hl n F hF;obtain⟨k1,k2,k3,K⟩:=Qy3 i F;rw[K] at z;obtain⟨x,hx⟩:∃x,kE F=x:=⟨_,rfl⟩;rw[hx] at z ⊢;replace z:=Lib.hid z;clear T X Y hF K hx;go_enter Tryz.func20,Tryz.ntmps20
 go_wp2_with fail
 refine z.out.mono ?_;rintro e q ⟨rfl,I⟩;have u:=B.below I B.lt;have l2:=u.lt;have r0:=u.cell 0 rfl;have r1:=u.cell 1 rfl;have r2:=u.cell 2 rfl;have q0:=u.fz 0;have q1:=u.fz 1;have q2:=u.fz 2;have E:=y.trans (I.mono y.size);have tA:Turn (λk=>k=w.1.size) q (q.setCells w.1.size 0 x.vs):=Gg (S:=λk=>k=w.1.size) rfl _ 0 q;have H:IB (q.setCells w.1.size 0 x.vs) w.1.size x.vs:=u.all _ rfl;have J:Below (q.setCells w.1.size 0 x.vs).1.size (q.setCells w.1.size 0 x.vs) (((q.setCells w.1.size 0 x.vs).alloc (.cells #[.string x.name,.int .i64 x.ino,.int .i64 x.kind] 32)).alloc (.cells #[.int .i64 k1,.int .i64 k2,.int .i64 k3] 45)):=(Ib).alloc (by simp) _;have W:=H.below J H.lt;have G:Below w.1.size w (q.setCells w.1.size 0 x.vs):=E.trans (tA.below (λk K=>by omega) E.size);have O:=G.trans (J.mono G.size);obtain⟨wF,f⟩:∃wF,wF=(((q.setCells w.1.size 0 x.vs).alloc (.cells #[.string x.name,.int .i64 x.ino,.int .i64 x.kind] 32)).alloc (.cells #[.int .i64 k1,.int .i64 k2,.int .i64 k3] 45)):=⟨_,rfl⟩;rw[<-f] at W O;replace f:=Lib.hid f;clear H J G tA B y E I z;go_wp2_with fail
 obtain rfl:=f.out;exact bodyPost_ret (Qjr Tryz.results20 rfl (Qav W)) rfl ⟨rfl,O⟩
def Zfh (x:Wh)(nb tb xb:Nat)(L:List De)(T:Nat->Prop)(w:World):Prop:=
 (T=λk=>k=nb\/k=tb)/\IB w nb [.int .i64 (Om L)]/\IB w tb [.bool (Rq x.name L)]/\IB w xb x.vs
theorem Qu5 {i z:Int}{y:De}{x:Wh}{nb tb xb:Nat}{v:Bool}{w:World}(Z:0<=y.1/\y.1<2147483648)(h1:nb≠tb)(h2:xb≠nb)(K:xb≠tb)(N:IB w nb [.int .i64 z])(T:IB w tb [.bool v])(X:IB w xb x.vs) :
  Calls Tryz.prog 63 #[.agg #[.int .i64 i,.int .i64 2,.int .i64 y.1],.agg #[.string y.2.name,.int .i64 y.2.ino,.int .i64 y.2.kind],.pointer (some ⟨nb,0,none⟩),.pointer (some ⟨tb,0,none⟩),.pointer (some ⟨xb,0,none⟩)] w λe w'=>e=.returned (.tuple #[])/\
   IB w' nb [.int .i64 (y.1+1)]/\IB w' tb [.bool (v||eqS y.2.name x.name)]/\IB w' xb x.vs/\Turn (λk=>k=nb\/k=tb) w w':=by
 obtain⟨-,-,W,z2⟩:=Qj9 w [.int .i64 i,.int .i64 2,.int .i64 y.1] y.2.vs 45 32;have l0:=N.lt;have O:=T.lt;have R:=X.lt;have n0:=N.cell 0 rfl;have nf:=N.fz 0;have t0:=T.cell 0 rfl;have tf:=T.fz 0;have x0:=X.cell 0 rfl;have Y:IntKind.i64.wrap (y.1+1)=y.1+1:=by simp[IntKind.wrap,IntKind.bits,IntKind.signed];omega
 have fin:∀(r:Bool),let w':=((w.setCell ⟨nb,0,none⟩ (.int .i64 (y.1+1))).setCell ⟨tb,0,none⟩ (.bool r));let u:=(w'.alloc (.cells #[.int .i64 i,.int .i64 2,.int .i64 y.1] 45)).alloc (.cells #[.string y.2.name,.int .i64 y.2.ino,.int .i64 y.2.kind] 32);IB u nb [.int .i64 (y.1+1)]/\IB u tb [.bool r]/\IB u xb x.vs/\Turn (λk=>k=nb\/k=tb) w u:=by
  intro r;have B:Turn (λk=>k=nb) w (w.setCell ⟨nb,0,none⟩ (.int .i64 (y.1+1))):=Gi (S:=λk=>k=nb) _ rfl;have F:=N.set 0 (.int .i64 (y.1+1));have J:=T.keep (B.block tb O λh=>h1 h.symm);have G:=X.keep (B.block xb R λh=>h2 h);have E:Turn (λk=>k=tb) (w.setCell ⟨nb,0,none⟩ (.int .i64 (y.1+1))) ((w.setCell ⟨nb,0,none⟩ (.int .i64 (y.1+1))).setCell ⟨tb,0,none⟩ (.bool r)):=Gi (S:=λk=>k=tb) _ rfl;have TB:=J.set 0 (.bool r);have f:=F.keep (E.block nb F.lt λh=>h1 h);have H:=G.keep (E.block xb G.lt λh=>K h);have q:Below ((w.setCell ⟨nb,0,none⟩ (.int .i64 (y.1+1))).setCell ⟨tb,0,none⟩ (.bool r)).1.size _ ((((w.setCell ⟨nb,0,none⟩ (.int .i64 (y.1+1))).setCell ⟨tb,0,none⟩ (.bool r)).alloc (.cells #[.int .i64 i,.int .i64 2,.int .i64 y.1] 45)).alloc (.cells #[.string y.2.name,.int .i64 y.2.ino,.int .i64 y.2.kind] 32)):=(Ib).alloc (by simp) _;exact⟨f.below q f.lt,TB.below q TB.lt,H.below q H.lt,(((B.mono λ_ h=>.inl h).trans E λ_ h=>.inl (.inr h)).trans (Uk q) λ_ h=>.inl h)⟩
 replace fin:=Lib.hid fin
 cases v with
 |true=>
  go_enter Tryz.func63,Tryz.ntmps63
  go_wp2_with fail
  go_end0
  exact⟨rfl,fin.out true⟩
 |false=>
  cases I:eqS y.2.name x.name with
  |false=>
   have M:(y.2.name.toList==x.name.toList)=false:=I;go_enter Tryz.func63,Tryz.ntmps63
   go_wp2_with fail
   go_end0
   exact⟨rfl,fin.out false⟩
  |true=>
   have M:(y.2.name.toList==x.name.toList)=true:=I;go_enter Tryz.func63,Tryz.ntmps63
   go_wp2_with fail
   go_end0
   exact⟨rfl,fin.out true⟩
theorem Qxm {nb tb xb:Nat}(i:Int)(x:Wh)(h1:nb≠tb)(h2:xb≠nb)(B:xb≠tb):Zbp 63 #[.pointer (some ⟨nb,0,none⟩),.pointer (some ⟨tb,0,none⟩),.pointer (some ⟨xb,0,none⟩)] i (Zfh x nb tb xb) where
 ent:=enters_of Tryz.func63 (by kernel_rfl) rfl
 keep:=λ⟨G,f,q,u⟩ z=>⟨G,f.below z f.lt,q.below z q.lt,u.below z u.lt⟩
 call:=by
  rintro L T w y ⟨rfl,f,q,u⟩ _ F;refine (Qu5 (i:=i) (x:=x) F h1 h2 B f q u).mono ?_;rintro e w' ⟨rfl,H,I,J,K⟩;refine⟨rfl,_,⟨rfl,?_,?_,J⟩,K,λk E=>.inl E⟩
  ·rw[show L++[y]=L++[(y.1,y.2)] from rfl,Qjc];exact H
  ·rw[Qhi];exact I
section
variable {b:Nat}{w w' w'':World}{d p:Nat}{U Q V:Nat->Prop}{D:DM}{P P':Pl}{H0:List Int}{m:Nat}{g:Int}{root i r:Int}{A C its:List Qq}{L:List De}{lim:Int}
theorem We7.Zbb {H:List Int}(E:We7 b w d p U D P H m g)(hT:Ua (P.store D) root its)(hr:Zt its)(hl:its.length<=150):Told w p (P.store D) root its:=⟨E.src,hT,hr,hl⟩
theorem Qg4.fromD (h:Qg4 b w' w'' d p U D P P' r H0 its m g)(hb:Below w.1.size w w'):Qg4 b w w'' d p U D P P' r H0 its m g:=
 ⟨h.ed,h.tree,h.like,h.n,h.free,h.old,(Uk hb).trans h.turn λ_ e=>.inl e⟩
def Zbn (b:Nat)(w:World)(d p:Nat)(U Q V:Nat->Prop)(D:DM)(P:Pl)(H0:List Int)(A C:List Qq)(i:Int)(L:List De)(x:Wh)(m:Nat)(g:Int)(t:Bool)(e:Ending)(w':World):Prop:=
 (t=true->e=.returned (.tuple #[.int .i64 0,.int .i64 11])/\Below w.1.size w w')/\
 (t=false->∃r P',e=.returned (.tuple #[.int .i64 r,.int .i64 0])/\Qg4 b w w' d p U D P P' r H0 (A++(Lc i (L++[(Om L,x)])++C)) m g/\Qcu b w' d p U Q V D P'/\Turn V w w')
theorem Qx5 (E:We7 b w d p U D P (Qfv root++H0) m g)(hQ:Qcu b w d p U Q V D P)(hb:1<b)(hT:Ua (P.store D) root (A++(Lc i L++C)))(X:Ctx i A C)(T:Ov L lim)(h0:0<=lim)(hl:lim<=2147483647)(z:(A++(Lc i L++C)).length<=150)(a1:H0.length<=10000)(b6:17<=P.C.free)(x:Wh)(hx:x.may=true)(t:Bool)(ht:Rq x.name L=t) :
  Calls Tryz.prog 21 #[.pointer (some ⟨p,0,none⟩),.int .i64 root,.int .i64 i,.agg #[.string x.name,.int .i64 x.ino,.int .i64 x.kind]] w (Zbn b w d p U Q V D P H0 A C i L x m g t):=by
 have hr:=X.Zt T;have G:IB (w.alloc (.cells #[.string x.name,.int .i64 x.ino,.int .i64 x.kind] 32)) w.1.size x.vs:=IB.new w _ _;have R:Below w.1.size w (w.alloc (.cells #[.string x.name,.int .i64 x.ino,.int .i64 x.kind] 32)):=Ib;have a6:∀k,U k->k<w.1.size:=λk I=>(E.low k I).2
 obtain⟨n0,n1,n2⟩:=T.next h0;obtain⟨o,ho⟩:∃o,Om L=o:=⟨_,rfl⟩;have F:=Lib.hid X;have K:=Lib.hid T;have HT:=Lib.hid hT;have HR:=Lib.hid hr;have u:=Lib.hid z;have HE:=Lib.hid E;have HQ:=Lib.hid hQ;clear X T hT hr z E hQ;go_enter Tryz.func21,Tryz.ntmps21
 go_wp2_with fail
 generalize w.alloc (.cells #[.string x.name,.int .i64 x.ino,.int .i64 x.kind] 32)=w1 at G R ⊢;refine (Qkh x hx w1).mono ?_;rintro e y ⟨VV,q,c,rfl,hV,a8,b2⟩;have B2:=R.trans (b2.mono R.size);have N2:=G.below b2 G.lt;have z1:=G.lt;have z2:=b2.size;obtain⟨H,z3,hN⟩:=Qc0 [([.int .i64 0],3),([.bool false],4)] y;have M:=hN 0 _ rfl;have O:=hN 1 _ rfl;obtain⟨B,f⟩:∃B,(y.alloc (.cells #[.int .i64 0] 3)).alloc (.cells #[.bool false] 4)=B:=⟨_,rfl⟩;replace H:Below y.1.size y B:=by rw[<-f];exact H
 replace z3:B.1.size=y.1.size+2:=by rw[<-f];exact z3
 replace M:IB B y.1.size [.int .i64 0]:=by rw[<-f];exact M
 replace O:IB B (y.1.size+1) [.bool false]:=by rw[<-f];exact O
 have Z:=B2.trans (H.mono B2.size);have N3:=N2.below H N2.lt;clear hN;have E3:=HE.out.below Z;have W:=Qgf (E3.Zbb HT.out HR.out u.out) E3.tab F.out K.out (by omega) (Qxm i x (nb:=y.1.size) (tb:=y.1.size+1) (xb:=w.1.size) (by omega) (by omega) (by omega)) (T0:=λk=>k=y.1.size\/k=y.1.size+1) ⟨rfl,M,O,N3⟩ (by rintro k (h|h)<;>omega);replace W:=Lib.hid W;replace f:=Lib.hid f;go_wp2_with fail
 rw[f.out];refine W.out.mono ?_;rintro e w4 ⟨rfl,T4,⟨rfl,M0,M1,M2⟩,X4,-⟩;have B4:Below w.1.size w w4:=Z.trans (X4.below (by rintro k (h|h)<;>omega) Z.size);rw[ho] at M0;rw[ht] at M1;have m0:=M0.cell 0 rfl;have m1:=M1.cell 0 rfl;clear W M O G N2 N3
 cases t with
 |true=>
  go_wp2_with fail
  go_ret2;exact⟨λ_=>⟨rfl,B4⟩,nofun⟩
 |false=>
  go_wp2_with fail
  refine (Qih i o w4).mono ?_;rintro e w5 ⟨rfl,b5⟩;have J:=B4.trans (b5.mono B4.size);have E5:=HE.out.below J;have a7:Sl w5 VV q c x.bytes:=((hV.below H).turned' X4 (λ_ k I=>by
   have:=hV.Zx (by intro h;have:=Qhv x;rw[h] at this;simp at this;omega) k I;rintro (h|h)<;>omega)).below b5
  have b7:Si ⟨i,2,o⟩ x.bytes false (A++(Lc i L++C))=A++(Lc i (L++[(Om L,x)])++C):=by rw[<-ho];exact F.out.Zez K.out h0 x
  have b8:(⟨i,2,o⟩:Kd).may=true:=(Kd.Vj _).2 ⟨F.out.one,⟨by show (0:Int)<=2;omega,by show (2:Int)<=255;omega⟩,by show 0<=o;omega,by show o<=2147483647;omega⟩;have b4:Nj ⟨⟨i,2,o⟩,x.bytes⟩:=⟨b8,by
   show x.bytes.length<=28;rw[Qhv];have:=of_decide_eq_true (Bool.and_eq_true_iff.1 hx).1;omega⟩
  have Y:=We7.Qpz (k:=⟨i,2,o⟩) (v:=x.bytes) (H0:=H0) (root:=root) (show We7 b w5 d p U D P (Qfv root++(nmI ⟨⟨i,2,o⟩,x.bytes⟩++H0)) m g by rw[Qwi];exact E5) (HQ.out.below J) hb HT.out HR.out (F.out.fine K.out (by omega)) b4 (Qu6 i o _) (by have:=u.out;omega) a1 VV q c a7 (λ_ k I hU=>by have:=a8 k I;have:=a6 k hU;have:=R.size;omega);rw[b7] at Y;replace Y:=Lib.hid Y;clear m0 m1 F K HT HR HE u HQ;go_wp2_with fail
  refine Y.out.mono ?_;rintro e w6 (⟨r,P',rfl,N,a2,b0⟩|⟨_,hf⟩)
  ·go_wp2_with fail
   go_ret2;exact⟨nofun,λ_=>⟨r,P',rfl,N.fromD J,a2,(Uk J).trans b0 λ_ h=>.inl h⟩⟩
  ·omega
end
section
variable {b:Nat}{w w' w'':World}{d p:Nat}{U Q V:Nat->Prop}{D:DM}{P P':Pl}{H0:List Int}{m:Nat}{g:Int}{root i r:Int}{A C its:List Qq}{L:List De}{lim:Int}
def Zbo (b:Nat)(w:World)(d p:Nat)(U Q V:Nat->Prop)(D:DM)(P:Pl)(H0:List Int)(A C:List Qq)(i:Int)(L:List De)(m:Nat)(g:Int)(F:Option De)(e:Ending)(w':World):Prop:=
 (F=none->e=.returned (.tuple #[.int .i64 0,.int .i64 10])/\Below w.1.size w w')/\
 (F≠none->∃r P',e=.returned (.tuple #[.int .i64 r,.int .i64 0])/\Qg4 b w w' d p U D P P' r H0 (A++(Lc i L++C)) m g/\Qcu b w' d p U Q V D P'/\Turn V w w')
theorem Qx9 (E:We7 b w d p U D P (Qfv root++H0) m g)(hQ:Qcu b w d p U Q V D P)(hb:1<b)(W:Ua (P.store D) root (A++(Lc i L++C)))(X:Ctx i A C)(K:Ov L lim)(h0:0<=lim)(hl:lim<=2147483647)(q:(A++(Lc i L++C)).length<=150)(R:H0.length<=10000)(Z:17<=P.C.free)(n:ByteArray)(F:Option De)(hF:Ol n L=F) :
  Calls Tryz.prog 22 #[.pointer (some ⟨p,0,none⟩),.int .i64 root,.int .i64 i,.string n] w (Zbo b w d p U Q V D P H0 A C i (Qe9 n L) m g F):=by
 have hr:=X.Zt K;have u:=Lib.hid (Qk3 (E.Zbb W hr q) E.tab X K (by omega) n F hF);have HX:=Lib.hid X;have HD:=Lib.hid K;have HT:=Lib.hid W;have HR:=Lib.hid hr;have H:=Lib.hid q;have HE:=Lib.hid E;have HQ:=Lib.hid hQ;have HF:=Lib.hid hF;clear X K W hr q E hF hQ
 cases F with
 |none=>
  have f:=u.out;rw[show kE none=Wh.zero from rfl,show kK i none=[.int .i64 0,.int .i64 0,.int .i64 0] from rfl,show kC none=10 from rfl] at f;replace u:=Lib.hid f;clear f;go_enter Tryz.func22,Tryz.ntmps22
  go_wp2_with fail
  refine u.out.mono ?_;rintro e B ⟨rfl,I⟩;have O:Below B.1.size B ((B.alloc (.cells #[.string ⟨#[]⟩,.int .i64 0,.int .i64 0] 32)).alloc (.cells #[.int .i64 0,.int .i64 0,.int .i64 0] 45)):=(Ib).alloc (by simp) _;have G:=I.trans (O.mono I.size);clear u;go_wp2_with fail
  go_ret2;exact⟨λ_=>⟨rfl,G⟩,λh=>absurd rfl h⟩
 |some x=>
  have f:=u.out;rw[show kE (some x)=x.2 from rfl,show kK i (some x)=[.int .i64 i,.int .i64 2,.int .i64 x.1] from rfl,show kC (some x)=0 from rfl] at f;replace u:=Lib.hid f;clear f;go_enter Tryz.func22,Tryz.ntmps22
  go_wp2_with fail
  refine u.out.mono ?_;rintro e B ⟨rfl,I⟩;have O:Below B.1.size B ((B.alloc (.cells #[.string x.2.name,.int .i64 x.2.ino,.int .i64 x.2.kind] 32)).alloc (.cells #[.int .i64 i,.int .i64 2,.int .i64 x.1] 45)):=(Ib).alloc (by simp) _;have G:=I.trans (O.mono I.size);have EF:=HE.out.below G;obtain⟨y,hy,z,_,J⟩:=(Qb9 n L).resolve_left (λh=>by rw[HF.out] at h;cases h.1);rw[HF.out] at z;obtain rfl:=Option.some.inj z;have M:=EF.Qoc (HQ.out.below G) hb HT.out HR.out (HX.out.fine HD.out (by omega)) ⟨i,2,x.1⟩ (by have:=H.out;omega) R (Ctx.has hy);rw[HX.out.del HD.out hy J] at M;replace M:=Lib.hid M;clear u EF J z;go_wp2_with fail
  refine M.out.mono ?_;rintro e w6 (⟨r,P',rfl,N,T,Y⟩|⟨_,hf⟩)
  ·go_wp2_with fail
   go_ret2;exact⟨nofun,λ_=>⟨r,P',rfl,N.fromD G,T,(Uk G).trans Y λ_ h=>.inl h⟩⟩
  ·omega
end
