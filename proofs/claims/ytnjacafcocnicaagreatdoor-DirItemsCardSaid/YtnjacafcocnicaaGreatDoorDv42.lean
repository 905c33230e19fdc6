/- The code's dir: List, by the library's sort -/
import Derived.Test.YtnjacafcocnicaaGreatDoorDv33
import Derived.Test.YtnjacafcocnicaaGreatDoorDv41
import Derived.Test.YtnjacafcocnicaaGreatDoorDiSt
import Derived.Shelf.SlSortCmp.NoneTotal
namespace Go.Proofs.YtnjacafcocnicaaGreatDoor
open Go Go.RowKit Go.Proofs Tryz
set_option maxHeartbeats 8000000
set_option maxRecDepth 100000
theorem qpb (a b:ByteArray)(w:WD):Calls prog 57 #[.string a,.string b] w λe w'=>e=.returned (.int .i64 (Lib.compareBytes a.data.toList b.data.toList))/\w'=w:=by
 go_enter func57,ntmps57
 go_wp2;rw[run_callFunc_extern func104 (by kernel_rfl) (by kernel_rfl) (by kernel_rfl) (e:=Extern.BytealgCompare.compare) (by kernel_rfl),Lib.run_compareString];simp only[Result.andThen];rw[Oper.upon_value];go_wp2;go_ret;exact⟨rfl,rfl⟩
theorem qkf (a b:ByteArray)(w:WD):Calls prog 30 #[.string a,.string b] w λe w'=>e=.returned (.int .i64 (Lib.compareBytes a.data.toList b.data.toList))/\w'=w:=by
 go_enter func30,ntmps30
 go_wp2_with (go_at_call 57;refine (qpb _ _ _).mono ?_;rintro e w' ⟨rfl,rfl⟩)
 go_ret;exact⟨rfl,rfl⟩
theorem qxj (x y:Qm)(W:WD):Calls prog 29 #[.agg #[.string x.name,.int .i64 x.ino,.int .i64 x.kind],.agg #[.string y.name,.int .i64 y.ino,.int .i64 y.kind]] W λe w'=>e=.returned (.int .i64 (U9 x y))/\∃q u,w'=Go.Sort.grow (W.drewN q) u:=by
 unfold U9;have f:=λA=>qkf x.name y.name A
 generalize Lib.compareBytes x.name.data.toList y.name.data.toList=r at f ⊢;go_enter func29,ntmps29
 go_wp2_with (go_at_call 30;refine (f _).mono ?_;rintro e w' ⟨rfl,rfl⟩)
 go_ret;exact⟨rfl,0,_,by rw[Go.Sort.alloc_eq_grow,Go.Sort.alloc_eq_grow,Go.Sort.grow_grow];rfl⟩
theorem qti:Sort.SWO (Go.Proofs.ltOf U9) where
 irrefl x:=by
  show decide (U9 x x<0)=false;rw[qf6];exact qhn _
 trans x y z h1 h2:=by
  have h1:decide (U9 x y<0)=true:=h1;have h2:decide (U9 y z<0)=true:=h2;show decide (U9 x z<0)=true;rw[qf6] at *;exact q4d h1 h2
 ntrans x y z h1 h2:=by
  have h1:decide (U9 x y<0)=false:=h1;have h2:decide (U9 y z<0)=false:=h2;show decide (U9 x z<0)=false;rw[qf6] at *
  cases h:Jr x.name z.name with
  |false=>rfl
  |true=>
   by_cases e:x.name=y.name
   ·rw[<-e,h] at h2;cases h2
   ·rcases q6j e with f|f
    ·rw[f] at h1;cases h1
    ·rw[q4d f h] at h2;cases h2
instance:Inhabited Qm:=⟨Qm.zero⟩
theorem qtj {w:WD}{blk off n:Nat}{d:Array Qm}{os:Array Obj}:Turn (λg=>g=blk) w (sortWorldK Qm.vs 3 w blk off n d os):=by
 have u:(sortWorldK Qm.vs 3 w blk off n d os).1=(w.1.modify blk (λo=>match o with
  |.cells c t f=>.cells (Go.Sort.putCells id off (Go.Sort.flatK Qm.vs 3 d) c) t f
  |o=>o))++os:=rfl
 refine⟨rfl,rfl,rfl,?_,λg y e=>?_⟩
 ·rw[u];simp
 ·rw[u,Array.getElem?_append_left (by simpa using y),Array.getElem?_modify,AB λh=>e h.symm]
theorem qmz {d:Array Qm}{j i:Nat}(e:j<d.size)(hi:i<3):(Go.Sort.flatK Qm.vs 3 d)[j*3+i]! = (Qm.vs d[j]!)[i]!:=by
 rw[Go.Sort.get_flatK _ _ _ _ (by omega),show (j*3+i) / 3=j by omega,show (j*3+i) % 3=i by omega]
theorem qn0 {w:WD}{base n c:Nat}{g:Nat}{l:List Qm}(h:Jz w base (some ⟨g,0,none⟩) n c l):Go.Sort.HoldsK Qm.vs 3 w g 0 l.toArray:=by
 have O:=h.ents.len;have H:=h.ents;rcases h.1.2 with⟨A,_⟩|⟨K,cap,B,A,_,I,_⟩
 ·injection A with h1;cases h1
 injection A with h1;injection h1 with h1;injection h1 with h1;subst h1;intro t y;rw[Go.Sort.size_flatK] at y;have y:t<l.length*3:=by simpa using y
 have u:t / 3<l.length:=by omega
 obtain⟨M,R,e,_,J⟩:=H.at_ (j:=t / 3) (by omega);injection e with e;injection e with E F;subst E F;have hi:t % 3<3:=by omega
 have f:(Zm l (t / 3)).vs.length=3:=rfl;have h2:=J (t % 3) _ (AC (by rw[f];exact hi));refine⟨?_,?_⟩
 ·rw[show t=t / 3*3+t % 3 by omega,qmz (by simpa using u) hi,getElem!_pos l.toArray (t / 3) (by simpa using u)];rw[show 0+(t / 3*3+t % 3)=0+t / 3*3+t % 3 by omega];refine h2.trans ?_;have G:Zm l (t / 3)=l.toArray[t / 3]'(by simpa using u):=qet u;rw[G,getElem!_pos (Qm.vs _) (t % 3) hi];rfl
 ·unfold World.frozen?;rw[I];simp
theorem qB0 {w:WD}{g c:Nat}{d:Array Qm}(h:Go.Sort.HoldsK Qm.vs 3 w g 0 d)(B:g<w.1.size)(A:d.size<=c)(hm:c<=maxLen):Zg w (some ⟨g,0,none⟩) d.size c d.toList:=by
 refine⟨by simp,A,hm,λj x f=>?_⟩;rw[BA] at f;have u:j<d.size:=by
  by_cases h1:j<d.toList.length
  ·simpa using h1
  ·rw[List.getElem?_eq_none (by omega)] at f;cases f
 rw[AC (by simpa using u)] at f;obtain rfl:Qm.vs d.toList[j]=x:=OI f;refine⟨g,0,rfl,B,rfl,λi v y=>?_⟩;have hi:i<3:=(List.getElem?_eq_some_iff.1 y).1;obtain⟨h1,_⟩:=h (j*3+i) (by rw[Go.Sort.size_flatK];omega);rw[qmz u hi] at h1;rw[AT] at h1 ⊢;refine h1.trans ?_;rw[getElem!_pos d j u];have e:d[j]=d.toList[j]:=rfl;rw[e];have:(Qm.vs d.toList[j])[i]! = v:=by
  rw[List.getElem!_eq_getElem?_getD,y];rfl
 rw[this];rfl
def Qcf (b lb:Nat)(L:List De)(T:NP)(w:WD):Prop:=
 b<=w.1.size/\∃A n c,(T=λk=>k=lb\/q01 A=some k)/\IB w lb [.slice A n c]/\Jz w b A n c (J5 L)
theorem qpc {i:Int}{x:De}{b lb n c:Nat}{A:OA}{w:WD}{l:List Qm}(h1:lb<b)(hb:b<=w.1.size)(hn:n<=1000)(I:IB w lb [.slice A n c])(O:Jz w b A n c l) :
  Calls prog 27 #[.agg #[.int .i64 i,.int .i64 2,.int .i64 x.1],.agg #[.string x.2.name,.int .i64 x.2.ino,.int .i64 x.2.kind],.pointer (some ⟨lb,0,none⟩)] w λe w'=>e=.returned (.tuple #[])/\
   ∃y R,IB w' lb [.slice y (n+1) R]/\Jz w' b y (n+1) R (l++[x.2])/\Turn (λk=>k=lb\/q01 A=some k) w w'/\(q01 y=q01 A\/∀k,q01 y=some k->w.1.size<=k):=by
 have l0:=I.lt;have i0:=I.cell 0 rfl;obtain⟨Z,B2,F,J⟩:=qfj w [.int .i64 i,.int .i64 2,.int .i64 x.1] x.2.vs 45 32;obtain⟨w2,u⟩:∃w2,((w.alloc (.cells #[.int .i64 i,.int .i64 2,.int .i64 x.1] 45)).alloc (.cells #[.string x.2.name,.int .i64 x.2.ino,.int .i64 x.2.kind] 32))=w2:=⟨_,rfl⟩;replace F:Below w.1.size w w2:=by rw[<-u];exact F
 replace J:w2.1.size=w.1.size+2:=by rw[<-u];exact J
 clear Z B2;have W:=q1z w2 x.2;rw[J] at W;have b3:Below w2.1.size w2 (w2.alloc (.cells #[.string x.2.name,.int .i64 x.2.ino,.int .i64 x.2.kind] 32)):=Qi;have f:Below w.1.size w (w2.alloc (.cells #[.string x.2.name,.int .i64 x.2.ino,.int .i64 x.2.kind] 32)):=F.trans (b3.mono (by omega));have O3:=O.below f;have M:=I.below f I.lt;have hO:=O.Qa;have z3:=f.size;subst u;go_enter func27,ntmps27
 go_wp2_with (first
  |(at_builtin;refine q36 rfl (.tmp 5) (.tmp 7) rfl rfl O3 _ 1 1 [x.2] rfl W (by omega) (by omega) ?_;intro K c4 Y O4 E G;have B:=M.keep (E.block lb M.lt (λh=>by have:=hO lb h;omega));have j0:=B.cell 0 rfl;have jf:=B.fz 0)
  |fail)
 have X:Turn (λk=>k=lb) Y (Y.setCell ⟨lb,0,none⟩ (.slice K (n+1) c4)):=Gw (S:=λk=>k=lb) _ rfl;have z4:=E.size;go_end0
 refine⟨rfl,K,c4,B.set 0 _,Q8.keep O4 (λg hg hl=>X.block g hl (by omega)),?_,?_⟩
 ·exact ((Qz f).trans (E.mono (S':=λk=>k=lb\/q01 A=some k) λk h=>.inr h) λk h=>.inl h).trans (X.mono (S':=λk=>k=lb\/q01 A=some k) λk h=>.inl h) λk h=>.inl h
 ·rcases G with h|h
  ·exact .inl h
  ·refine .inr λk H=>?_
   rw[h] at H;injection H with H;omega
theorem qtk {b lb:Nat}(i:Int)(h:lb<b):Qa4 27 #[.pointer (some ⟨lb,0,none⟩)] i (Qcf b lb) where
 ent:=enters_of func27 (by kernel_rfl) rfl
 keep:=λ⟨y,A,n,c,h1,h2,u⟩ B=>⟨AZ y B.size,A,n,c,h1,h2.below B h2.lt,u.below B⟩
 call:=by
  rintro L T w x ⟨y,A,n,c,rfl,h2,u⟩ K _;have hn:=u.ents.len;rw[q2u] at hn;refine (qpc (i:=i) (x:=x) h y (by omega) h2 u).mono ?_;rintro e w' ⟨rfl,F,G,H,I,E,J⟩;refine⟨rfl,_,⟨AZ y E.size,F,n+1,G,rfl,H,?_⟩,E,λk f=>?_⟩
  ·rw[show J5 (L++[x])=J5 L++[x.2] from qme L x.1 x.2];exact I
  ·rcases f with f|f
   ·exact .inl (.inl f)
   ·rcases J with h|h
    ·exact .inl (.inr (h▸f))
    ·exact .inr (h k f)
theorem qxk {b n c:Nat}{A:OA}{w:WD}{l:List Qm}(O:Jz w b A n c l)(hn:n<=1000)(hd:l.Pairwise λx y=>x.name≠y.name) :
  Calls prog 28 #[.slice A n c,.func (.func 29) #[] #[]] w λe w'=>e=.returned (.tuple #[])/\Zg w' A n c (Yv l)/\Turn (λk=>q01 A=some k) w w':=by
 have G:=O.ents.len;by_cases h0:n=0
 ·subst h0;obtain rfl:l=[]:=BF G;have f:=AnyF.slices_SortFunc_none qkv A c (.func (.func 29) #[] #[]) w;change Calls prog 28 _ _ _ at f;refine f.mono ?_;rintro e w' ⟨rfl,rfl⟩;exact⟨rfl,O.ents,Turn.refl _ _⟩
 ·obtain⟨g,H,e,a1,I⟩:=q7g O.1 (by omega);injection e with X e2 e3;subst X;have Z:H=c:=by omega
  subst Z;have K:g<w.1.size:=(O.Qa g rfl).2;have Y:∀u w,(callFunc 29 u).run prog w=.ok (.enter 29 u) w:=enters_of func29 (by kernel_rfl) rfl;have F:CmpLays prog 29 #[] Qm.vs 3 U9 g 0 l.toArray.size w:=λ_ _ _ _ x y=>qxj x y _
  have f:=AnyQ.slices_SortFunc qkv 3 Tryz.isAgg32 Tryz.sizeOf32 Qm.vs (λ_=>rfl) (λx v hv=>qr6 x v hv) U9 qti 29 #[] g 0 H l.toArray w Y F (qn0 O) K (by simp;omega);rw[show l.toArray.size=n by simpa using G] at f;change Calls prog 28 _ _ _ at f;refine f.mono ?_;rintro e w' ⟨rfl,B,m,os,hp,hs,rfl⟩;have E:Sort.PermIn 0 l.toArray.size l.toArray B:=by rw[show l.toArray.size=n by simpa using G];exact hp
  have M:Sort.SortedIn (λx y=>decide (U9 x y<0)) 0 l.toArray.size B:=by rw[show l.toArray.size=n by simpa using G];exact hs
  have hz:B.size=n:=by rw[E.1];simpa using G
  have J:=qso E M hd;have T:=qtj (w:=w) (blk:=g) (off:=0) (n:=m) (d:=B) (os:=os);have W:Go.Sort.HoldsK Qm.vs 3 (sortWorldK Qm.vs 3 w g 0 m B os) g 0 B:=holdsK_sortWorldK_c Qm.vs 3 w g 0 l.toArray B m os (qn0 O) K E.1;have R:=qB0 (c:=H) W (Nat.lt_of_lt_of_le K T.size) (by omega) I;rw[hz,J] at R;refine⟨rfl,R,T.mono λk hk=>by rw[hk];rfl⟩
theorem qib {w:WD}{p:Nat}{R:Int->Nd × Int}{root i:Int}{A C:List Qc}{L:List De}{lim:Int}(T:Told w p R root (A++(Qe i L++C)))(Y:Tab w)(X:Ctx i A C)(G:Ji L lim)(hl:lim<=2147483648) :
  Calls prog 8 #[.pointer (some ⟨p,0,none⟩),.int .i64 root,.int .i64 i] w λe w'=>∃A n c,e=.returned (.tuple #[.slice A n c,.int .i64 0])/\Zg w' A n c (Yv (J5 L))/\Below w.1.size w w':=by
 have y:=T.len;have a1:L.length<=1000:=by rw[AD,AD,Ny] at y;omega
 have O:IB (w.alloc (.cells #[.slice none 0 0] 26)) w.1.size [.slice none 0 0]:=IB.new w _ _;have f:Below w.1.size w (w.alloc (.cells #[.slice none 0 0] 26)):=Qi;have z1:(w.alloc (.cells #[.slice none 0 0] 26)).1.size=w.1.size+1:=by simp
 obtain⟨w1,K⟩:∃w1,w.alloc (.cells #[.slice none 0 0] 26)=w1:=⟨_,rfl⟩;rw[K] at O f z1;have B:=qbm (T.below f) (Y.below f Y.1) X G hl (qtk (b:=w.1.size+1) (lb:=w.1.size) i (by omega)) (T0:=λk=>k=w.1.size\/q01 none=some k) ⟨by omega,none,0,0,rfl,O,qr7 _ _⟩ (by rintro k (h|h);omega;cases h);replace B:=HI B;have J:=HI (qow G);clear T X G;go_enter func8,ntmps8
 go_wp2_with fail
 refine B.out.mono ?_;rintro e w2 ⟨rfl,T2,⟨_,Z,n2,c2,rfl,E,F⟩,X2,-⟩;have I:=F.ents.len;rw[q2u] at I;have hS:=qxk F (by omega) J.out;have u:=F.Qa;have M:Below w.1.size w w2:=f.trans (X2.below (by rintro k (h|h);omega;cases h) f.size);have i0:=E.cell 0 rfl;clear B;go_wp2_with fail
 refine hS.mono ?_;rintro e w3 ⟨rfl,H,W⟩;have I3:=E.keep (W.block _ E.lt λh=>by have:=u _ h;omega);have B3:Below w.1.size w w3:=M.trans (W.below (λk hk=>by have:=u k hk;omega) M.size);have j0:=I3.cell 0 rfl;clear i0;go_wp2_with fail
 go_ret2;exact⟨Z,n2,c2,rfl,H,B3⟩
def Nu:Qm:=⟨⟨#[98]⟩,5,1⟩
def Ru:Qm:=⟨⟨#[97]⟩,6,2⟩
theorem qxl:Nu.name≠Ru.name:=λh=>by
 have h2:Nu.name.data.toList=Ru.name.data.toList:=by rw[h]
 exact absurd h2 (by decide)
theorem qB1:Jr Nu.name Ru.name=false:=by
 cases h:Jr Nu.name Ru.name with
 |false=>rfl
 |true=>exact absurd ((q21 _ _).1 h) (by decide)
theorem qxm (o:Int):Wp Ru.name ([]++[(o,Nu)])=false:=by
 show (eqS Nu.name Ru.name||false)=false;rw[qyz qxl];rfl
theorem qB2 (o e:Int):Yv (J5 (([]++[(o,Nu)])++[(e,Ru)]))=[Ru,Nu]:=by
 show Au Ru (Au Nu [])=_;have h1:Au Nu []=[Nu]:=rfl;rw[h1];have h2:Zt Ru.name [Nu]=0:=by rw[q5q,qB1];rfl
 unfold Au;rw[h2];rfl
theorem qfk:Ctx 1 [] []:=qke ⟨by omega,by omega⟩
section
variable {b:Nat}{w w':WD}{d p:Nat}{U Q V:NP}{D:DM}{P P':Pl}{m:Nat}{g:Int}{root r:Int}{L:List De}{lim:Nat}
structure Solo (b:Nat)(w:WD)(d p:Nat)(U Q V:NP)(D:DM)(P:Pl)(root:Int)(L:List De)(lim:Nat)(m:Nat)(g:Int):Prop where
 ed:Ed b w d p U D P (Ul root++[]) m g
 sys:Vb b w d p U Q V D P
 tree:Jg (P.store D) root ([]++(Qe 1 L++[]))
 row:Ji L (lim:Int)
 few:L.length<=lim
 kept:P.C.kept=0
theorem Solo.len (_h:Solo b w d p U Q V D P root L lim m g):([]++(Qe 1 L++[])).length=L.length:=by simp[Ny]
theorem Solo.told (h:Solo b w d p U Q V D P root L lim m g)(hl:lim<=100):Told w p (P.store D) root ([]++(Qe 1 L++[])):=
 h.ed.D8 h.tree (qfk.Qo h.row) (by rw[h.len];have:=h.few;omega)
theorem Solo.free (h:Solo b w d p U Q V D P root L lim m g)(hn:2*lim+17+P.C.first<=P.C.n):17<=P.C.free:=by
 have h1:=(h.ed.Qau h.tree).2;rw[h.len] at h1;have:=h.few;have:=h.kept;omega
theorem Solo.change {row:List De}(h:Solo b w d p U Q V D P root L lim m g)(hr:Ji row ((lim:Int)+1))(hl:row.length<=lim+1)(N:G8 b w w' d p U D P P' r [] ([]++(Qe 1 row++[])) m g)(hQ:Vb b w' d p U Q V D P'):Solo b w' d p U Q V D P' r row (lim+1) m g:=
 ⟨N.ed,hQ,N.tree,by exact_mod_cast hr,hl,by rw[qi5 N.like N.n];exact h.kept⟩
theorem Solo.look (h:Solo b w d p U Q V D P root L lim m g)(hl:lim<=100)(n:ByteArray)(F:Option De)(hF:J7 n L=F) :
  Calls prog 23 #[.pointer (some ⟨p,0,none⟩),.int .i64 root,.int .i64 1,.string n] w λe w'=>e=.returned (.tuple #[.agg #[.string (kE F).name,.int .i64 (kE F).ino,.int .i64 (kE F).kind],.int .i64 (kC F)])/\Below w.1.size w w':=
 qia (h.told hl) h.ed.tab qfk h.row (by omega) n F hF
theorem Solo.list (h:Solo b w d p U Q V D P root L lim m g)(hl:lim<=100) :
  Calls prog 8 #[.pointer (some ⟨p,0,none⟩),.int .i64 root,.int .i64 1] w λe w'=>∃A n c,e=.returned (.tuple #[.slice A n c,.int .i64 0])/\Zg w' A n c (Yv (J5 L))/\Below w.1.size w w':=
 qib (h.told hl) h.ed.tab qfk h.row (by omega)
def qB3 (b:Nat)(w:WD)(d p:Nat)(U Q V:NP)(D:DM)(P:Pl)(L:List De)(lim:Nat)(x:Qm)(m:Nat)(g:Int)(t:Bool)(e:Ending)(w':WD):Prop:=
 (t=true->e=.returned (.tuple #[.int .i64 0,.int .i64 11])/\Below w.1.size w w')/\
 (t=false->∃r P',e=.returned (.tuple #[.int .i64 r,.int .i64 0])/\Solo b w' d p U Q V D P' r (L++[(Yn L,x)]) (lim+1) m g/\P'.C.n=P.C.n/\r≠0/\Turn V w w')
theorem qdw {H0:LI}{its:List Qc}(h:G8 b w w' d p U D P P' r H0 its m g)(hi:its≠[]):r≠0:=by
 rcases h.tree with⟨rfl,_⟩|⟨l,_,e,h1,_⟩
 ·exact absurd rfl hi
 ·omega
theorem Solo.add (h:Solo b w d p U Q V D P root L lim m g)(hb:1<b)(hl:lim<=100)(hn:2*lim+17+P.C.first<=P.C.n)(x:Qm)(hx:x.may=true)(t:Bool)(ht:Wp x.name L=t) :
  Calls prog 13 #[.pointer (some ⟨p,0,none⟩),.int .i64 root,.int .i64 1,.agg #[.string x.name,.int .i64 x.ino,.int .i64 x.kind]] w (qB3 b w d p U Q V D P L lim x m g t):=by
 refine (qmy h.ed h.sys hb h.tree qfk h.row (by omega) (by omega) (by rw[h.len];have:=h.few;omega) (by simp) (h.free hn) x hx t ht).mono ?_;rintro e w' ⟨h1,h2⟩;refine⟨h1,λh0=>?_⟩;obtain⟨r,P',rfl,N,A,B⟩:=h2 h0;have u:∀y∈L,y.2.name≠x.name:=by
  rcases q1u x.name L with⟨_,_,f⟩|⟨y,_,_,f,_⟩
  ·exact f
  ·rw[ht,h0] at f;cases f
 exact⟨r,P',rfl,h.change (h.row.snoc (by omega) hx u) (by rw[AD];have:=h.few;simp;omega) N A,N.n,qdw N (by simp[Qe]),B⟩
theorem qxn {n:Nat}(E:Ed b w d p U D (Pl.fresh n) [] m g):Solo b w d p U (λ_=>False) U D (Pl.fresh n) 0 [] 0 m g:=
 ⟨E,E.Qcz,.inl ⟨rfl,rfl⟩,qmd _,AE _,qi6 n⟩
end
section
variable {b:Nat}{w w':WD}{d p:Nat}{U Q V:NP}{D:DM}{P:Pl}{m:Nat}{g:Int}{root:Int}{L:List De}{lim:Nat}
end
theorem qbo (w:WD)(ht:Tab w):Calls prog 5 #[] w λe w'=>e=.returned (.bool true)/\Below w.1.size w w':=by
 have hG:=ht.1;have hM:=HI (q8l 64 ⟨by omega,by omega⟩ w ht);have u:=qmx 64;have M:(Pl.fresh 64).C.first=4:=by unfold Ct.first;rw[u];rfl
 have a6:=qes .eql (.inl rfl);have a8:=qyu;go_enter func5,ntmps5
 go_wp2_with fail
 refine hM.out.mono ?_;rintro e w2 ⟨p,d,U,D,rfl,W,R,hU⟩;clear hM;have S2:=qxn W;have H:=HI (S2.add hG (by omega) (by rw[u,M];omega) Nu (by decide) false rfl);clear W;go_wp2_with fail
 refine H.out.mono ?_;rintro e w3 ⟨-,Y⟩;obtain⟨r3,P3,rfl,S3,n3,b0,X⟩:=Y rfl;clear H Y;have O:P3.C.first=4:=by unfold Ct.first;rw[n3,u];rfl
 have I:=HI (S3.add hG (by omega) (by rw[n3,u,O];omega) Ru (by decide) false (qxm _));go_wp2_with fail
 refine I.out.mono ?_;rintro e w4 ⟨-,Z⟩;obtain⟨r4,P4,rfl,S4,n4,b1,X4⟩:=Z rfl;clear I Z;have J:=HI (S4.list (by omega));have K:=R.size;have G:Below w.1.size w w4:=(R.trans (X.below hU K)).trans (X4.below hU (AZ K X.size));go_wp2_with fail
 refine J.out.mono ?_;rintro e F ⟨A,n,c,rfl,f,b5⟩;have hL:Yv (J5 (([]++[(Yn [],Nu)])++[(Yn ([]++[(Yn [],Nu)]),Ru)]))=[Ru,Nu]:=qB2 _ _;rw[hL] at f;have hn:=f.len;obtain rfl:n=2:=by rw[<-hn];rfl
 obtain⟨E,o,rfl,a7,y⟩:=f.at_ (j:=0) (by omega);obtain⟨a2,o',e,_,B⟩:=f.at_ (j:=1) (by omega);injection e with e;injection e with e1 e2;subst e1 e2;have a1:=f.bounds.1;have x0:F.cell? ⟨E,o,none⟩=some (.string ⟨#[97]⟩):=y 0 _ rfl;have x1:F.cell? ⟨E,o+1,none⟩=some (.int .i64 6):=y 1 _ rfl;have x2:F.cell? ⟨E,o+2,none⟩=some (.int .i64 2):=y 2 _ rfl;have y0:F.cell? ⟨E,o+3,none⟩=some (.string ⟨#[98]⟩):=B 0 _ rfl;have y1:F.cell? ⟨E,o+3+1,none⟩=some (.int .i64 5):=B 1 _ rfl;have y2:F.cell? ⟨E,o+3+2,none⟩=some (.int .i64 1):=B 2 _ rfl;clear y B J hL;go_wp2_with fail
 go_ret;exact⟨rfl,G.trans (b5.mono G.size)⟩
section
variable {b:Nat}{w w':WD}{d p:Nat}{U Q V:NP}{D:DM}{P P':Pl}{m:Nat}{g:Int}{root r:Int}{L:Nat->List De}{lim:Nat}
structure Yc (b:Nat)(w:WD)(d p:Nat)(U Q V:NP)(D:DM)(P:Pl)(root:Int)(L:Nat->List De)(lim:Nat)(m:Nat)(g:Int):Prop where
 Ze:Aj b w d p U D P root L lim m g
 sys:Vb b w d p U Q V D P
theorem Yc.below (h:Yc b w d p U Q V D P root L lim m g)(hb:Below w.1.size w w'):Yc b w' d p U Q V D P root L lim m g:=⟨h.Ze.below hb,h.sys.below hb⟩
theorem Yc.wider {l2:Nat}(h:Yc b w d p U Q V D P root L lim m g)(hl:lim<=l2):Yc b w d p U Q V D P root L l2 m g:=⟨h.Ze.wider hl,h.sys⟩
theorem Yc.own (h:Yc b w d p U Q V D P root L lim m g)(hb:1<b){S' Q':NP}(t:Turn S' w w')(hS:∀k,S' k->Q k)(hU:∀k,S' k->¬U k)(hQ:∀k,Q' k->Q k\/(w.1.size<=k/\k<w'.1.size)):Yc b w' d p U Q' V D P root L lim m g:=by
 obtain⟨h1,h2⟩:=h.Ze.ed.own h.sys hb t hS hU hQ;exact⟨⟨h1,h.Ze.tree,h.Ze.rows,h.Ze.few,h.Ze.n,h.Ze.kept⟩,h2⟩
theorem Yc.one (h:Yc b w d p U Q V D P root L lim m g)(hl:lim<=80){k:Nat}(hk:k<3):∃A C,Ctx ((k:Int)+1) A C/\(∀r,tri (Bz L k r)=A++(Qe ((k:Int)+1) r++C))/\Jg (P.store D) root (A++(Qe ((k:Int)+1) (L k)++C))/\(A++(Qe ((k:Int)+1) (L k)++C)).length<=150:=by
 obtain⟨A,C,X,e⟩:=qAw h.Ze.rows (by omega) hk;have h1:=e (L k);rw[qi7] at h1;refine⟨A,C,X,e,h1▸h.Ze.tree,?_⟩;rw[<-h1];have:=h.Ze.few;omega
theorem Yc.look (h:Yc b w d p U Q V D P root L lim m g)(hl:lim<=80){k:Nat}(hk:k<3)(n:ByteArray)(F:Option De)(hF:J7 n (L k)=F) :
  Calls prog 23 #[.pointer (some ⟨p,0,none⟩),.int .i64 root,.int .i64 ((k:Int)+1),.string n] w λe w'=>e=.returned (.tuple #[.agg #[.string (kE F).name,.int .i64 (kE F).ino,.int .i64 (kE F).kind],.int .i64 (kC F)])/\Below w.1.size w w':=by
 obtain⟨A,C,X,_,y,f⟩:=h.one hl hk;have u:=h.Ze.rows k hk;exact qia (h.Ze.ed.D8 y (X.Qo u) f) h.Ze.ed.tab X u (by omega) n F hF
theorem Yc.list (h:Yc b w d p U Q V D P root L lim m g)(hl:lim<=80){k:Nat}(hk:k<3) :
  Calls prog 8 #[.pointer (some ⟨p,0,none⟩),.int .i64 root,.int .i64 ((k:Int)+1)] w λe w'=>∃A n c,e=.returned (.tuple #[.slice A n c,.int .i64 0])/\Zg w' A n c (Yv (J5 (L k)))/\Below w.1.size w w':=by
 obtain⟨A,C,X,_,y,f⟩:=h.one hl hk;have u:=h.Ze.rows k hk;exact qib (h.Ze.ed.D8 y (X.Qo u) f) h.Ze.ed.tab X u (by omega)
def qB4 (b:Nat)(w:WD)(d p:Nat)(U Q V:NP)(D:DM)(L:Nat->List De)(k:Nat)(lim:Nat)(x:Qm)(m:Nat)(g:Int)(t:Bool)(e:Ending)(w':WD):Prop:=
 (t=true->e=.returned (.tuple #[.int .i64 0,.int .i64 11])/\Below w.1.size w w')/\
 (t=false->∃r P',e=.returned (.tuple #[.int .i64 r,.int .i64 0])/\Yc b w' d p U Q V D P' r (Bz L k (L k++[(Yn (L k),x)])) (lim+1) m g/\r≠0/\Turn V w w')
theorem Yc.add (h:Yc b w d p U Q V D P root L lim m g)(hb:1<b)(hl:lim<=80){k:Nat}(hk:k<3)(x:Qm)(hx:x.may=true)(t:Bool)(ht:Wp x.name (L k)=t) :
  Calls prog 13 #[.pointer (some ⟨p,0,none⟩),.int .i64 root,.int .i64 ((k:Int)+1),.agg #[.string x.name,.int .i64 x.ino,.int .i64 x.kind]] w (qB4 b w d p U Q V D L k lim x m g t):=by
 obtain⟨A,C,X,F,H,f⟩:=h.one hl hk;have E:=h.Ze.rows k hk;refine (qmy h.Ze.ed h.sys hb H X E (by omega) (by omega) f (by simp) (h.Ze.free hl) x hx t ht).mono ?_;rintro e w' ⟨h1,h2⟩;refine⟨h1,λh0=>?_⟩;obtain⟨r,P',rfl,N,G,I⟩:=h2 h0;have B:∀y∈L k,y.2.name≠x.name:=by
  rcases q1u x.name (L k) with⟨_,_,u⟩|⟨y,_,_,u,_⟩
  ·exact u
  ·rw[ht,h0] at u;cases u
 exact⟨r,P',rfl,⟨h.Ze.change hk (E.snoc (by omega) hx B) (by rw[AD];simp) N (F _).symm,G⟩,qdw N (by simp[Qe]),I⟩
def qtl (b:Nat)(w:WD)(d p:Nat)(U Q V:NP)(D:DM)(L:Nat->List De)(k:Nat)(row:List De)(lim:Nat)(m:Nat)(g:Int)(F:Option De)(e:Ending)(w':WD):Prop:=
 (F=none->e=.returned (.tuple #[.int .i64 0,.int .i64 10])/\Below w.1.size w w')/\
 (F≠none->∃r P',e=.returned (.tuple #[.int .i64 r,.int .i64 0])/\Yc b w' d p U Q V D P' r (Bz L k row) (lim+1) m g/\Jg (P'.store D) r (tri (Bz L k row))/\Turn V w w')
theorem Yc.remove (h:Yc b w d p U Q V D P root L lim m g)(hb:1<b)(hl:lim<=80){k:Nat}(hk:k<3)(n:ByteArray)(F:Option De)(hF:J7 n (L k)=F) :
  Calls prog 19 #[.pointer (some ⟨p,0,none⟩),.int .i64 root,.int .i64 ((k:Int)+1),.string n] w (qtl b w d p U Q V D L k (Gl n (L k)) lim m g F):=by
 obtain⟨A,C,X,y,E,f⟩:=h.one hl hk;have u:=h.Ze.rows k hk;refine (qxi h.Ze.ed h.sys hb E X u (by omega) (by omega) f (by simp) (h.Ze.free hl) n F hF).mono ?_;rintro e w' ⟨h1,h2⟩;refine⟨h1,λh0=>?_⟩;obtain⟨r,P',rfl,N,B,G⟩:=h2 h0;have:=h.Ze.change hk ((u.filter _).wider (by omega)) (Nat.le_succ_of_le (List.length_filter_le _ _)) N (y _).symm;exact⟨r,P',rfl,⟨this,B⟩,this.tree,G⟩
theorem Yc.swap (h:Yc b w d p U Q V D P root L lim m g)(hb:1<b)(hl:lim<=80){k:Nat}(hk:k<3)(x:Qm)(hx:x.may=true)(F:Option De)(hF:J7 x.name (L k)=F) :
  Calls prog 21 #[.pointer (some ⟨p,0,none⟩),.int .i64 root,.int .i64 ((k:Int)+1),.agg #[.string x.name,.int .i64 x.ino,.int .i64 x.kind]] w (qtl b w d p U Q V D L k (Vj x (L k)) lim m g F):=by
 obtain⟨A,C,X,y,E,f⟩:=h.one hl hk;have u:=h.Ze.rows k hk;refine (qth h.Ze.ed h.sys hb E X u (by omega) (by omega) f (by simp) (h.Ze.free hl) x hx F hF).mono ?_;rintro e w' ⟨h1,h2⟩;refine⟨h1,λh0=>?_⟩;obtain⟨r,P',rfl,N,B,G⟩:=h2 h0;have:=h.Ze.change hk ((u.swap hx).wider (by omega)) (by simp[Vj]) N (y _).symm;exact⟨r,P',rfl,⟨this,B⟩,this.tree,G⟩
theorem Yc.commit (h:Yc b w d p U Q V D P root L lim m g)(hb:1<b)(hm:m<=500000)(hg:g<=1000000) :
  Calls prog 25 #[.pointer (some ⟨p,0,none⟩)] w λe w'=>e=.returned (.int .i64 0)/\Yc b w' d p (grow U w w') Q V (D.Qj P.steps) P.done root L lim (m+2100) (g+1)/\Turn U w w':=by
 have B:=(h.Ze.ed.Qau h.Ze.tree).1;refine (h.Ze.ed.Qa7 h.sys hb hm hg).mono ?_;rintro e w' ⟨rfl,u,A,X,f⟩;refine⟨rfl,⟨⟨u,?_,h.Ze.rows,h.Ze.few,h.Ze.n,?_⟩,A⟩,X⟩
 ·rcases h.Ze.tree with h0|⟨l,h1,h2,y⟩
  ·exact .inl h0
  ·exact .inr ⟨l,h1,f _ _ _ h2,y⟩
 ·show P.C.commit.kept<=_;rw[qkc];have:=h.Ze.few;omega
end
abbrev Rw:=OA × Nat × Nat
def Uf (p:Nat)(root:Int)(T:Nat->Rw):LV:=[.pointer (some ⟨p,0,none⟩),.int .i64 root,.slice (T 0).1 (T 0).2.1 (T 0).2.2,.slice (T 1).1 (T 1).2.1 (T 1).2.2,.slice (T 2).1 (T 2).2.1 (T 2).2.2]
def Gy (T:Nat->Rw)(k:Nat)(r:Rw):Nat->Rw:=λj=>if j=k then r else T j
theorem qkg (T:Nat->Rw)(k:Nat)(r:Rw):Gy T k r k=r:=AA rfl
theorem qkh {T:Nat->Rw}{k j:Nat}(r:Rw)(h:j≠k):Gy T k r j=T j:=AB h
theorem qtm {w:WD}{q p:Nat}{root:Int}{T:Nat->Rw}(H:IB w q (Uf p root T)){k:Nat}(e:k<3)(A:OA)(n c:Nat):IB (w.setCell ⟨q,2+k,none⟩ (.slice A n c)) q (Uf p root (Gy T k (A,n,c))):=by
 have h:=H.set (2+k) (.slice A n c);rcases (show k=0\/k=1\/k=2 by omega) with rfl|rfl|rfl<;>exact h
theorem qxo {w:WD}{q p:Nat}{root r:Int}{T:Nat->Rw}(H:IB w q (Uf p root T)):IB (w.setCell ⟨q,1,none⟩ (.int .i64 r)) q (Uf p r T):=H.set 1 _
section
variable {w:WD}{q p:Nat}{root:Int}{T:Nat->Rw}
theorem qic (H:IB w q (Uf p root T)){k:Nat}(f:k<3)(e:Int)(J:e≠0)(A:OA)(n c:Nat) :
  Calls prog 18 #[.pointer (some ⟨q,0,none⟩),.int .i64 (k:Int),.int .i64 0,.int .i64 e,.slice A n c,.int .i64 e] w λo w'=>o=.returned (.bool true)/\IB w' q (Uf p root (Gy T k (A,n,c)))/\Turn (λj=>j=q) w w':=by
 have u:=qtm H f A n c;have y:Turn (λj=>j=q) w (w.setCell ⟨q,2+k,none⟩ (.slice A n c)):=Gw (a:=⟨q,2+k,none⟩) _ rfl;have h2:=H.cell 2 rfl;have G:=H.cell 3 rfl;have I:=H.cell 4 rfl;have B:=H.fz 2;have E:=H.fz 3;have F:=H.fz 4;rcases (show k=0\/k=1\/k=2 by omega) with rfl|rfl|rfl
 all_goals (
  go_enter func18,ntmps18
  go_wp2_with fail
  go_ret;exact⟨rfl,u,y⟩)
theorem qtn (H:IB w q (Uf p root T)){k:Nat}(Y:k<3)(r:Int)(A:OA)(n c:Nat){y:Nat->Rw}(W:Gy T k (A,n,c)=y)(X:r≠0\/((y 0).2.1=0/\(y 1).2.1=0/\(y 2).2.1=0)) :
  Calls prog 18 #[.pointer (some ⟨q,0,none⟩),.int .i64 (k:Int),.int .i64 r,.int .i64 0,.slice A n c,.int .i64 0] w λo w'=>o=.returned (.bool true)/\IB w' q (Uf p r y)/\Turn (λj=>j=q) w w':=by
 have f:=qtm H Y A n c;rw[W] at f;have G:Turn (λj=>j=q) w (w.setCell ⟨q,2+k,none⟩ (.slice A n c)):=Gw (a:=⟨q,2+k,none⟩) _ rfl;have h2:=H.cell 2 rfl;have h3:=H.cell 3 rfl;have h4:=H.cell 4 rfl;have f2:=H.fz 2;have f3:=H.fz 3;have f4:=H.fz 4;obtain⟨j,B⟩:∃j,2+k=j:=⟨_,rfl⟩;rw[B] at f G;obtain⟨w1,E⟩:∃u,w.setCell ⟨q,j,none⟩ (.slice A n c)=u:=⟨_,rfl⟩;rw[E] at f G;have c1:=f.cell 1 rfl;have g1:=f.fz 1;have e:=qxo (r:=r) f;have J:Turn (λj=>j=q) w1 (w1.setCell ⟨q,1,none⟩ (.int .i64 r)):=Gw (a:=⟨q,1,none⟩) _ rfl;obtain⟨w2,F⟩:∃u,w1.setCell ⟨q,1,none⟩ (.int .i64 r)=u:=⟨_,rfl⟩;rw[F] at e J;have M:=e.cell 2 rfl;have O:=e.cell 3 rfl;have R:=e.cell 4 rfl;have K:=G.trans J λ_ h=>.inl h
 rcases (show k=0\/k=1\/k=2 by omega) with rfl|rfl|rfl
 all_goals (
  simp only[Nat.reduceAdd] at B;subst B;by_cases I:r=0
  ·obtain⟨z0,Z,z2⟩:=X.resolve_left λh=>h I
   rw[z0] at M;rw[Z] at O;rw[z2] at R;subst I;go_enter func18,ntmps18
   go_wp2_with fail
   go_quiet (fail)
   go_wp2_with fail
   go_ret;exact⟨rfl,e.below (Nb (AI _ _) _) e.lt,K.trans (Qz (Nb (AI _ _) _)) λ_ h=>.inl h⟩
  ·go_enter func18,ntmps18
   go_wp2_with fail
   go_quiet (fail)
   go_wp2_with fail
   go_ret;exact⟨rfl,e.below (Nb (AI _ _) _) e.lt,K.trans (Qz (Nb (AI _ _) _)) λ_ h=>.inl h⟩)
end
structure Yb (b:Nat)(w:WD)(q d p:Nat)(U V:NP)(D:DM)(P:Pl)(root:Int)(L:Nat->List De)(T:Nat->Rw)(lim:Nat)(m:Nat)(g:Int):Prop where
 Jv:Yc b w d p U (λk=>k=q) V D P root L lim m g
 blk:IB w q (Uf p root T)
 row:∀j,j<3->Zg w (T j).1 (T j).2.1 (T j).2.2 (J5 (L j))
 off:∀j,j<3->(T j).2.1≠0->∀g,q01 (T j).1=some g->g<w.heap.size/\g≠q/\¬U g
 Gv:¬U q
 sub:∀k,V k->U k
theorem Zg.empty {w w':WD}{A:OA}{n c:Nat}{l:List Qm}(h:Zg w A n c l)(h0:n=0):Zg w' A n c l:=
 ⟨h.1,h.2.1,h.2.2.1,λj x e=>by
  have:=h.1;have:=(List.getElem?_eq_some_iff.1 e).1;omega⟩
theorem Zg.block {w:WD}{A:OA}{n c:Nat}{l:List Qm}(h:Zg w A n c l)(h0:n≠0){g:Nat}(hg:q01 A=some g):g<w.1.size:=by
 obtain⟨e,o,rfl,h1,_⟩:=h.at_ (j:=0) (by omega);obtain rfl:e=g:=OI hg;exact h1
section
variable {b:Nat}{w w1 w2 w3:WD}{q d p:Nat}{U V:NP}{D:DM}{P P':Pl}{m:Nat}{g:Int}{root r:Int}{L L':Nat->List De}{T:Nat->Rw}{lim:Nat}
theorem Yb.below (h:Yb b w q d p U V D P root L T lim m g)(hb:Below w.1.size w w1):Yb b w1 q d p U V D P root L T lim m g:=
 ⟨h.Jv.below hb,h.blk.below hb h.blk.lt,λj e=>(h.row j e).below hb,λj e h0 k f=>⟨by have:=(h.off j e h0 k f).1;have:=hb.size;omega,(h.off j e h0 k f).2⟩,h.Gv,h.sub⟩
theorem Yb.wider {l2:Nat}(h:Yb b w q d p U V D P root L T lim m g)(hl:lim<=l2):Yb b w q d p U V D P root L T l2 m g:=⟨h.Jv.wider hl,h.blk,h.row,h.off,h.Gv,h.sub⟩
theorem Yb.stay (h:Yb b w q d p U V D P root L T lim m g){j:Nat}(hj:j<3)(X1:Turn V w w1)(B:Below w1.1.size w1 w2)(X3:Turn (λk=>k=q) w2 w3):Zg w3 (T j).1 (T j).2.1 (T j).2.2 (J5 (L j)):=by
 by_cases h0:(T j).2.1=0
 ·exact (h.row j hj).empty h0
 ·have h1:=(h.row j hj).turned X1 λk f u=>(h.off j hj h0 k f).2.2 (h.sub k u)
  exact (h1.below B).turned X3 λk f e=>(h.off j hj h0 k f).2.1 e
theorem Yb.step (h:Yb b w q d p U V D P root L T lim m g)(hb:1<b){k:Nat}{lim2:Nat}(h1:Yc b w1 d p U (λk=>k=q) V D P' r L' lim2 m g)(X1:Turn V w w1)(hL:∀j,j≠k->L' j=L j)(B:Below w1.1.size w1 w2)
  {A:OA} {n c:Nat} (hR:Zg w2 A n c (J5 (L' k))) (hA:∀g,q01 A=some g->w1.1.size<=g) (H3:IB w3 q (Uf p r (Gy T k (A,n,c)))) (X3:Turn (λk=>k=q) w2 w3):Yb b w3 q d p U V D P' r L' (Gy T k (A,n,c)) lim2 m g:=by
 have I:=X1.size;have J:=B.size;have z3:=X3.size;have H:=h.blk.lt;have f:=λk F=>(h1.Ze.ed.low k F).2
 refine⟨(h1.below B).own hb X3 (λ_ h=>h) (λk e=>e▸h.Gv) (λ_ h=>.inl h),H3,λj u=>?_,λj u h0 i hi=>?_,h.Gv,h.sub⟩
 ·by_cases e:j=k
  ·subst e;rw[qkg];exact hR.turned X3 λi hi e=>by have:=hA i hi;have e:i=q:=e;omega
  ·rw[qkh _ e,hL j e];exact h.stay u X1 B X3
 ·by_cases e:j=k
  ·subst e;rw[qkg] at h0 hi;have y:=hA i hi;have G:=hR.block h0 hi;exact⟨by omega,by omega,λE=>by have:=f i E;omega⟩
  ·rw[qkh _ e] at h0 hi;have y:=h.off j u h0 i hi;exact⟨by omega,y.2⟩
theorem qto (T:Nat->Rw)(k:Nat):Gy T k (T k)=T:=funext λj=>by
 unfold Gy;split
 ·next h=>rw[h]
 ·rfl
theorem Yb.same (h:Yb b w q d p U V D P root L T lim m g)(hb:1<b){k:Nat}(B:Below w.1.size w w2)(H3:IB w3 q (Uf p root (Gy T k (T k))))(X3:Turn (λk=>k=q) w2 w3):Yb b w3 q d p U V D P root L T lim m g:=by
 rw[qto] at H3;have A:=B.size;have z3:=X3.size;have y:Turn V w w:=Turn.refl _ _;refine⟨(h.Jv.below B).own hb X3 (λ_ h=>h) (λk e=>e▸h.Gv) (λ_ h=>.inl h),H3,λj f=>h.stay f y B X3,λj f h0 i hi=>?_,h.Gv,h.sub⟩;have u:=h.off j f h0 i hi;exact⟨by omega,u.2⟩
theorem Yb.commit {D':DM}{m2:Nat}{g2:Int}(h:Yb b w q d p U V D P root L T lim m g)(h1:Yc b w1 d p (grow U w w1) (λk=>k=q) V D' P' root L lim m2 g2)(X1:Turn U w w1):Yb b w1 q d p (grow U w w1) V D' P' root L T lim m2 g2:=by
 have E:=X1.size;have B:=h.blk.lt;refine⟨h1,h.blk.keep (X1.block q B h.Gv),λj f=>?_,λj f h0 i hi=>?_,λe=>?_,λk u=>?_⟩
 ·by_cases h0:(T j).2.1=0
  ·exact (h.row j f).empty h0
  ·exact (h.row j f).turned X1 λk u A=>(h.off j f h0 k u).2.2 A
 ·have y:=h.off j f h0 i hi;refine⟨by omega,y.2.1,λe=>?_⟩;rcases e.1 with e|e
  ·exact y.2.2 e
  ·omega
 ·rcases e.1 with e|e
  ·exact h.Gv e
  ·omega
 ·have:=h.sub k u;exact⟨.inl this,by have:=(h.Jv.Ze.ed.low k this).2;omega⟩
theorem Yb.later {m2:Nat}{g2:Int}(h:Yb b w q d p U V D P root L T lim m g)(hm:m<=m2)(hg:g<=g2):Yb b w q d p U V D P root L T lim m2 g2:=
 ⟨⟨⟨⟨h.Jv.Ze.ed.sys,h.Jv.Ze.ed.low,h.Jv.Ze.ed.tab,h.Jv.Ze.ed.keep,h.Jv.Ze.ed.Ya.mono hm,by have:=h.Jv.Ze.ed.gen;omega⟩,h.Jv.Ze.tree,h.Jv.Ze.rows,h.Jv.Ze.few,h.Jv.Ze.n,h.Jv.Ze.kept⟩,h.Jv.sys⟩,h.blk,h.row,h.off,h.Gv,h.sub⟩
end
def Px (b:Nat)(w:WD)(q d p:Nat)(U V:NP)(lim:Nat)(m:Nat)(g:Int)(e:Ending)(w':WD):Prop:=
 e=.returned (.bool true)/\∃f u P' r L' y,Yb b w' q d p f V u P' r L' y (lim+1) (m+2100) (g+1)/\Turn (λk=>k=q\/U k) w w'/\∀k,f k->grow U w w' k
theorem qbp {w:WD}{q p:Nat}{root:Int}{T:Nat->Rw}(H:IB w q (Uf p root T)){k:Nat}(e:k<3):w.cell? ⟨q,2+k,none⟩=some (.slice (T k).1 (T k).2.1 (T k).2.2):=by
 rcases (show k=0\/k=1\/k=2 by omega) with rfl|rfl|rfl
 ·exact H.cell 2 rfl
 ·exact H.cell 3 rfl
 ·exact H.cell 4 rfl
section
variable {b:Nat}{w:WD}{q d p:Nat}{U V:NP}{D:DM}{P:Pl}{m:Nat}{g:Int}{root:Int}{L:Nat->List De}{T:Nat->Rw}{lim:Nat}
theorem q53 {w1 w2 w3:WD}(h:Yb b w1 q d p U V D P root L T lim m g)(A:1<b)(f:Below w.1.size w w1){k:Nat}(B:Below w1.1.size w1 w2)(y:IB w3 q (Uf p root (Gy T k (T k))))(e:Turn (λk=>k=q) w2 w3):Px b w q d p U V lim m g (.returned (.bool true)) w3:=by
 have u:=f.trans (B.mono f.size);have X:=(Qz u (S:=λk=>k=q\/U k)).trans e λ_ h=>.inl (.inl h)
 refine⟨rfl,U,D,P,root,L,T,((h.same A B y e).wider (by omega)).later (by omega) (by omega),X,λi hi=>⟨.inl hi,?_⟩⟩;have:=(h.Jv.Ze.ed.low i hi).2;have:=B.size;have:=e.size;omega
theorem qbq {w1 w2 w3 f:WD}{P':Pl}{r:Int}{L':Nat->List De}{T':Nat->Rw}(h:Yb b f q d p U V D P' r L' T' (lim+1) m g)(E:∀k,U k->b<=k/\k<w.1.size)(F:∀k,V k->U k)(A:Below w.1.size w w1)(u:Turn V w1 w2)(B:Below w2.1.size w2 w3)(y:Turn (λk=>k=q) w3 f):Px b w q d p U V lim m g (.returned (.bool true)) f:=by
 have G:=A.size;have H:=u.size;have z3:=B.size;have z4:=y.size;have X:=(((Qz A (S:=λk=>k=q\/U k)).trans u λk e=>.inl (.inr (F k e))).trans (Qz B (S:=λ_=>False)) λ_ e=>e.elim).trans y λ_ e=>.inl (.inl e)
 exact⟨rfl,U,D,P',r,L',T',h.later (by omega) (by omega),X,λi hi=>⟨.inl hi,by have:=(E i hi).2;omega⟩⟩
end
section
variable {b:Nat}{w:WD}{q d p:Nat}{U V:NP}{D:DM}{P:Pl}{m:Nat}{g:Int}{root:Int}{L:Nat->List De}{T:Nat->Rw}{lim:Nat}
theorem Yb.lens (h:Yb b w q d p U V D P root L T lim m g):∀j,j<3->(T j).2.1=(L j).length:=λj e=>by rw[<-(h.row j e).len,q2u]
theorem Yb.short (h:Yb b w q d p U V D P root L T lim m g)(hl:lim<=79){k:Nat}(hk:k<3):(L k).length<=1000:=by
 have e:=h.Jv.Ze.few;rw[q6l] at e;rcases (show k=0\/k=1\/k=2 by omega) with rfl|rfl|rfl<;>omega
theorem qxp {L:Nat->List De}(h:tri L=[]):∀j,j<3->L j=[]:=λj e=>by
 have h1:=congrArg List.length h;rw[q6l] at h1;have h2:(L 0).length+((L 1).length+(L 2).length)=0:=h1;rcases (show j=0\/j=1\/j=2 by omega) with rfl|rfl|rfl<;>exact BF (by omega)
theorem qid {R:Int->Nd × Int}{r:Int}{L:Nat->List De}{T:Nat->Rw}{k:Nat}{row:List De}(h:Jg R r (tri (Bz L k row)))(_:k<3)(y:∀j,j<3->(T j).2.1=(L j).length){A:OA}{n c:Nat}(hn:n=row.length):r≠0\/((Gy T k (A,n,c) 0).2.1=0/\(Gy T k (A,n,c) 1).2.1=0/\(Gy T k (A,n,c) 2).2.1=0):=by
 rcases h with⟨h0,_⟩|⟨_,_,_,B,_⟩
 ·have f:∀j,j<3->(Gy T k (A,n,c) j).2.1=0:=λj u=>by
   have h2:=qxp h0 j u;by_cases e:j=k
   ·subst e;rw[qkg];rw[q52] at h2;rw[h2] at hn;exact hn
   ·rw[qkh _ e,y j u];rw[q3c _ e] at h2;rw[h2];rfl
  exact .inr ⟨f 0 (by omega),f 1 (by omega),f 2 (by omega)⟩
 ·exact .inl (by omega)
end
section
variable {b:Nat}{w:WD}{q d p:Nat}{U V:NP}{D:DM}{P:Pl}{m:Nat}{g:Int}{root:Int}{L:Nat->List De}{T:Nat->Rw}{lim:Nat}
theorem qz2 (F:Option De):lkE (F.map (·.2))=kE F/\lkC (F.map (·.2))=kC F:=by cases F<;>exact⟨rfl,rfl⟩
theorem qdx {w:WD}{base e:Nat}(E:base<=e)(u:base<=w.1.size)(x y z:Value):Below base w (((w.setCell ⟨e,0,none⟩ x).setCell ⟨e,1,none⟩ y).setCell ⟨e,2,none⟩ z):=by
 have A:Turn (λj=>j=e) w (w.setCell ⟨e,0,none⟩ x):=Gw (a:=⟨e,0,none⟩) _ rfl;have B:Turn (λj=>j=e) (w.setCell ⟨e,0,none⟩ x) ((w.setCell ⟨e,0,none⟩ x).setCell ⟨e,1,none⟩ y):=Gw (a:=⟨e,1,none⟩) _ rfl;have t3:Turn (λj=>j=e) ((w.setCell ⟨e,0,none⟩ x).setCell ⟨e,1,none⟩ y) (((w.setCell ⟨e,0,none⟩ x).setCell ⟨e,1,none⟩ y).setCell ⟨e,2,none⟩ z):=Gw (a:=⟨e,2,none⟩) _ rfl;exact ((A.trans B λ_ h=>.inl h).trans t3 λ_ h=>.inl h).below (λk f=>by have f:k=e:=f;omega) u
theorem qie {w1 w2:WD}(h:Yb b w1 q d p U V D P root L T lim m g)(e:Below w.1.size w w1)(B:Below w1.1.size w1 w2):Px b w q d p U V lim m g (.returned (.bool true)) w2:=by
 have f:=e.trans (B.mono e.size);refine⟨rfl,U,D,P,root,L,T,((h.below B).wider (by omega)).later (by omega) (by omega),Qz f,λi hi=>⟨.inl hi,?_⟩⟩;have:=(h.Jv.Ze.ed.low i hi).2;have:=B.size;omega
end
