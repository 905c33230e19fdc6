/- The code's dir: List, by the library's sort -/
import Derived.Test.YthkfkhejjmhomaaGreatDoorDb43
import Derived.Test.YthkfkhejjmhomaaGreatDoorDiSt
import Derived.Shelf.SlSortCmp.NoneTotal
namespace Go.Proofs.YthkfkhejjmhomaaGreatDoor
open Go Go.RowKit Go.Proofs
set_option maxHeartbeats 8000000
set_option maxRecDepth 100000
theorem qmx (a b:ByteArray)(w:World):Calls Tryz.prog 96 #[.string a,.string b] w λe w'=>e=.returned (.int .i64 (Lib.compareBytes a.data.toList b.data.toList))/\w'=w:=by
 go_enter Tryz.func96,Tryz.ntmps96
 go_wp2;rw[run_callFunc_extern Tryz.func168 (by kernel_rfl) (by kernel_rfl) (by kernel_rfl) (e:=Extern.BytealgCompare.compare) (by kernel_rfl),Lib.run_compareString];simp only[Result.andThen];rw[Oper.upon_value];go_wp2;go_ret;exact⟨rfl,rfl⟩
theorem qi7 (a b:ByteArray)(w:World):Calls Tryz.prog 53 #[.string a,.string b] w λe w'=>e=.returned (.int .i64 (Lib.compareBytes a.data.toList b.data.toList))/\w'=w:=by
 go_enter Tryz.func53,Tryz.ntmps53
 go_wp2_with (go_at_call 96;refine (qmx _ _ _).mono ?_;rintro e w' ⟨rfl,rfl⟩)
 go_ret;exact⟨rfl,rfl⟩
theorem qv6 (x y:Za)(W:World):Calls Tryz.prog 52 #[.agg #[.string x.name,.int .i64 x.ino,.int .i64 x.kind],.agg #[.string y.name,.int .i64 y.ino,.int .i64 y.kind]] W λe w'=>e=.returned (.int .i64 (Ur x y))/\∃q u,w'=Go.Sort.grow (W.drewN q) u:=by
 unfold Ur;have f:=λA=>qi7 x.name y.name A
 generalize Lib.compareBytes x.name.data.toList y.name.data.toList=r at f ⊢;go_enter Tryz.func52,Tryz.ntmps52
 go_wp2_with (go_at_call 53;refine (f _).mono ?_;rintro e w' ⟨rfl,rfl⟩)
 go_ret;exact⟨rfl,0,_,by rw[Go.Sort.alloc_eq_grow,Go.Sort.alloc_eq_grow,Go.Sort.grow_grow];rfl⟩
theorem qri:Sort.SWO (Go.Proofs.ltOf Ur) where
 irrefl x:=by
  show decide (Ur x x<0)=false;rw[qe6];exact qg9 _
 trans x y z h1 h2:=by
  have h1:decide (Ur x y<0)=true:=h1;have h2:decide (Ur y z<0)=true:=h2;show decide (Ur x z<0)=true;rw[qe6] at *;exact q3z h1 h2
 ntrans x y z h1 h2:=by
  have h1:decide (Ur x y<0)=false:=h1;have h2:decide (Ur y z<0)=false:=h2;show decide (Ur x z<0)=false;rw[qe6] at *
  cases h:Js x.name z.name with
  |false=>rfl
  |true=>
   by_cases e:x.name=y.name
   ·rw[<-e,h] at h2;cases h2
   ·rcases q5z e with f|f
    ·rw[f] at h1;cases h1
    ·rw[q3z f h] at h2;cases h2
instance:Inhabited Za:=⟨Za.zero⟩
theorem qrj {w:World}{blk off n:Nat}{d:Array Za}{os:Array Obj}:Turn (λg=>g=blk) w (sortWorldK Za.vs 3 w blk off n d os):=by
 have u:(sortWorldK Za.vs 3 w blk off n d os).1=(w.1.modify blk (λo=>match o with
  |.cells c t f=>.cells (Go.Sort.putCells id off (Go.Sort.flatK Za.vs 3 d) c) t f
  |o=>o))++os:=rfl
 refine⟨rfl,rfl,rfl,?_,λg y e=>?_⟩
 ·rw[u];simp
 ·rw[u,Array.getElem?_append_left (by simpa using y),Array.getElem?_modify,if_neg λh=>e h.symm]
theorem qkq {d:Array Za}{j i:Nat}(e:j<d.size)(hi:i<3):(Go.Sort.flatK Za.vs 3 d)[j*3+i]! = (Za.vs d[j]!)[i]!:=by
 rw[Go.Sort.get_flatK _ _ _ _ (by omega),show (j*3+i) / 3=j by omega,show (j*3+i) % 3=i by omega]
theorem qkr {w:World}{base n c:Nat}{g:Nat}{l:List Za}(h:Vy w base (some ⟨g,0,none⟩) n c l):Go.Sort.HoldsK Za.vs 3 w g 0 l.toArray:=by
 have O:=h.ents.len;have H:=h.ents;rcases h.1.2 with⟨A,_⟩|⟨K,cap,B,A,_,I,_⟩
 ·injection A with h1;cases h1
 injection A with h1;injection h1 with h1;injection h1 with h1;subst h1;intro t y;rw[Go.Sort.size_flatK] at y;have y:t<l.length*3:=by simpa using y
 have u:t / 3<l.length:=by omega
 obtain⟨M,R,e,_,J⟩:=H.at_ (j:=t / 3) (by omega);injection e with e;injection e with E F;subst E F;have hi:t % 3<3:=by omega
 have f:(Bo l (t / 3)).vs.length=3:=rfl;have h2:=J (t % 3) _ (List.getElem?_eq_getElem (by rw[f];exact hi));refine⟨?_,?_⟩
 ·rw[show t=t / 3*3+t % 3 by omega,qkq (by simpa using u) hi,getElem!_pos l.toArray (t / 3) (by simpa using u)];rw[show 0+(t / 3*3+t % 3)=0+t / 3*3+t % 3 by omega];refine h2.trans ?_;have G:Bo l (t / 3)=l.toArray[t / 3]'(by simpa using u):=qtf u;rw[G,getElem!_pos (Za.vs _) (t % 3) hi];rfl
 ·unfold World.frozen?;rw[I];simp
theorem qy1 {w:World}{g c:Nat}{d:Array Za}(h:Go.Sort.HoldsK Za.vs 3 w g 0 d)(B:g<w.1.size)(A:d.size<=c)(hm:c<=maxLen):Gi w (some ⟨g,0,none⟩) d.size c d.toList:=by
 refine⟨by simp,A,hm,λj x f=>?_⟩;rw[List.getElem?_map] at f;have u:j<d.size:=by
  by_cases h1:j<d.toList.length
  ·simpa using h1
  ·rw[List.getElem?_eq_none (by omega)] at f;cases f
 rw[List.getElem?_eq_getElem (by simpa using u)] at f;obtain rfl:Za.vs d.toList[j]=x:=Option.some.inj f;refine⟨g,0,rfl,B,rfl,λi v y=>?_⟩;have hi:i<3:=(List.getElem?_eq_some_iff.1 y).1;obtain⟨h1,_⟩:=h (j*3+i) (by rw[Go.Sort.size_flatK];omega);rw[qkq u hi] at h1;rw[Nat.zero_add] at h1 ⊢;refine h1.trans ?_;rw[getElem!_pos d j u];have e:d[j]=d.toList[j]:=rfl;rw[e];have:(Za.vs d.toList[j])[i]! = v:=by
  rw[List.getElem!_eq_getElem?_getD,y];rfl
 rw[this];rfl
def Qbq (b lb:Nat)(L:List De)(T:Nat->Prop)(w:World):Prop:=
 b<=w.1.size/\∃A n c,(T=λk=>k=lb\/q01 A=some k)/\IB w lb [.slice A n c]/\Vy w b A n c (Ae L)
theorem qmy {i:Int}{x:De}{b lb n c:Nat}{A:Option Addr}{w:World}{l:List Za}(h1:lb<b)(hb:b<=w.1.size)(hn:n<=1000)(I:IB w lb [.slice A n c])(O:Vy w b A n c l) :
  Calls Tryz.prog 50 #[.agg #[.int .i64 i,.int .i64 2,.int .i64 x.1],.agg #[.string x.2.name,.int .i64 x.2.ino,.int .i64 x.2.kind],.pointer (some ⟨lb,0,none⟩)] w λe w'=>e=.returned (.tuple #[])/\
   ∃B T,IB w' lb [.slice B (n+1) T]/\Vy w' b B (n+1) T (l++[x.2])/\Turn (λk=>k=lb\/q01 A=some k) w w'/\(q01 B=q01 A\/∀k,q01 B=some k->w.1.size<=k):=by
 have l0:=I.lt;have i0:=I.cell 0 rfl;obtain⟨Z,B2,G,K⟩:=qeb w [.int .i64 i,.int .i64 2,.int .i64 x.1] x.2.vs 45 32;obtain⟨u,y⟩:∃u,((w.alloc (.cells #[.int .i64 i,.int .i64 2,.int .i64 x.1] 45)).alloc (.cells #[.string x.2.name,.int .i64 x.2.ino,.int .i64 x.2.kind] 32))=u:=⟨_,rfl⟩;replace G:Below w.1.size w u:=by rw[<-y];exact G
 replace K:u.1.size=w.1.size+2:=by rw[<-y];exact K
 clear Z B2;have W:=qtg u x.2;rw[K] at W;have b3:Below u.1.size u (u.alloc (.cells #[.string x.2.name,.int .i64 x.2.ino,.int .i64 x.2.kind] 32)):=Qk;have f:Below w.1.size w (u.alloc (.cells #[.string x.2.name,.int .i64 x.2.ino,.int .i64 x.2.kind] 32)):=G.trans (b3.mono (by omega));have O3:=O.below f;have R:=I.below f I.lt;have hO:=O.Qc;have z3:=f.size;subst y;go_enter Tryz.func50,Tryz.ntmps50
 go_wp2_with (first
  |(at_builtin;refine qhh rfl (.tmp 5) (.tmp 7) rfl rfl O3 _ 1 1 [x.2] rfl W (by omega) (by omega) ?_;intro M c4 Y O4 F H;have E:=R.keep (F.block lb R.lt (λh=>by have:=hO lb h;omega));have j0:=E.cell 0 rfl;have jf:=E.fz 0)
  |fail)
 have X:Turn (λk=>k=lb) Y (Y.setCell ⟨lb,0,none⟩ (.slice M (n+1) c4)):=Ac (S:=λk=>k=lb) _ rfl;have z4:=F.size;go_end0
 refine⟨rfl,M,c4,E.set 0 _,Qr.keep O4 (λg hg hl=>X.block g hl (by omega)),?_,?_⟩
 ·exact ((Qx f).trans (F.mono (S':=λk=>k=lb\/q01 A=some k) λk h=>.inr h) λk h=>.inl h).trans (X.mono (S':=λk=>k=lb\/q01 A=some k) λk h=>.inl h) λk h=>.inl h
 ·rcases H with h|h
  ·exact .inl h
  ·refine .inr λk J=>?_
   rw[h] at J;injection J with J;omega
theorem qrk {b lb:Nat}(i:Int)(h:lb<b):Qae 50 #[.pointer (some ⟨lb,0,none⟩)] i (Qbq b lb) where
 ent:=enters_of Tryz.func50 (by kernel_rfl) rfl
 keep:=λ⟨y,A,n,c,h1,h2,u⟩ B=>⟨Nat.le_trans y B.size,A,n,c,h1,h2.below B h2.lt,u.below B⟩
 call:=by
  rintro L T w x ⟨y,A,n,c,rfl,h2,u⟩ K _;have hn:=u.ents.len;rw[qkh] at hn;refine (qmy (i:=i) (x:=x) h y (by omega) h2 u).mono ?_;rintro e w' ⟨rfl,F,G,H,I,E,J⟩;refine⟨rfl,_,⟨Nat.le_trans y E.size,F,n+1,G,rfl,H,?_⟩,E,λk f=>?_⟩
  ·rw[show Ae (L++[x])=Ae L++[x.2] from qux L x.1 x.2];exact I
  ·rcases f with f|f
   ·exact .inl (.inl f)
   ·rcases J with h|h
    ·exact .inl (.inr (h▸f))
    ·exact .inr (h k f)
theorem qv7 {b n c:Nat}{A:Option Addr}{w:World}{l:List Za}(O:Vy w b A n c l)(hn:n<=1000)(hd:l.Pairwise λx y=>x.name≠y.name) :
  Calls Tryz.prog 51 #[.slice A n c,.func (.func 52) #[] #[]] w λe w'=>e=.returned (.tuple #[])/\Gi w' A n c (Kz l)/\Turn (λk=>q01 A=some k) w w':=by
 have G:=O.ents.len;by_cases h0:n=0
 ·subst h0;obtain rfl:l=[]:=List.eq_nil_of_length_eq_zero G;have f:=AnyF.slices_SortFunc_none ql0 A c (.func (.func 52) #[] #[]) w;change Calls Tryz.prog 51 _ _ _ at f;refine f.mono ?_;rintro e w' ⟨rfl,rfl⟩;exact⟨rfl,O.ents,Turn.refl _ _⟩
 ·obtain⟨g,H,e,a1,I⟩:=qaa O.1 (by omega);injection e with X e2 e3;subst X;have Z:H=c:=by omega
  subst Z;have K:g<w.1.size:=(O.Qc g rfl).2;have Y:∀u w,(callFunc 52 u).run Tryz.prog w=.ok (.enter 52 u) w:=enters_of Tryz.func52 (by kernel_rfl) rfl;have F:CmpLays Tryz.prog 52 #[] Za.vs 3 Ur g 0 l.toArray.size w:=λ_ _ _ _ x y=>qv6 x y _
  have f:=AnyQ.slices_SortFunc ql0 3 Tryz.isAgg32 Tryz.sizeOf32 Za.vs (λ_=>rfl) (λx v hv=>qos x v hv) Ur qri 52 #[] g 0 H l.toArray w Y F (qkr O) K (by simp;omega);rw[show l.toArray.size=n by simpa using G] at f;change Calls Tryz.prog 51 _ _ _ at f;refine f.mono ?_;rintro e w' ⟨rfl,B,m,os,hp,hs,rfl⟩;have E:Sort.PermIn 0 l.toArray.size l.toArray B:=by rw[show l.toArray.size=n by simpa using G];exact hp
  have M:Sort.SortedIn (λx y=>decide (Ur x y<0)) 0 l.toArray.size B:=by rw[show l.toArray.size=n by simpa using G];exact hs
  have hz:B.size=n:=by rw[E.1];simpa using G
  have J:=qr3 E M hd;have T:=qrj (w:=w) (blk:=g) (off:=0) (n:=m) (d:=B) (os:=os);have W:Go.Sort.HoldsK Za.vs 3 (sortWorldK Za.vs 3 w g 0 m B os) g 0 B:=holdsK_sortWorldK_c Za.vs 3 w g 0 l.toArray B m os (qkr O) K E.1;have R:=qy1 (c:=H) W (Nat.lt_of_lt_of_le K T.size) (by omega) I;rw[hz,J] at R;refine⟨rfl,R,T.mono λk hk=>by rw[hk];rfl⟩
theorem qrl {w:World}{p:Nat}{R:Int->Nd × Int}{root i:Int}{A C:List Qb}{L:List De}{lim:Int}(T:Told w p R root (A++(Qu i L++C)))(Y:Tab w)(X:Ctx i A C)(G:Jv L lim)(hl:lim<=2147483648) :
  Calls Tryz.prog 15 #[.pointer (some ⟨p,0,none⟩),.int .i64 root,.int .i64 i] w λe w'=>∃A n c,e=.returned (.tuple #[.slice A n c,.int .i64 0])/\Gi w' A n c (Kz (Ae L))/\Below w.1.size w w':=by
 have y:=T.len;have a1:L.length<=150:=by rw[List.length_append,List.length_append,q2g] at y;omega
 have O:IB (w.alloc (.cells #[.slice none 0 0] 26)) w.1.size [.slice none 0 0]:=IB.new w _ _;have f:Below w.1.size w (w.alloc (.cells #[.slice none 0 0] 26)):=Qk;have z1:(w.alloc (.cells #[.slice none 0 0] 26)).1.size=w.1.size+1:=by simp
 obtain⟨Z,K⟩:∃Z,w.alloc (.cells #[.slice none 0 0] 26)=Z:=⟨_,rfl⟩;rw[K] at O f z1;have B:=qaw (T.below f) (Y.below f Y.1) X G hl (qrk (b:=w.1.size+1) (lb:=w.1.size) i (by omega)) (T0:=λk=>k=w.1.size\/q01 none=some k) ⟨by omega,none,0,0,rfl,O,qot _ _⟩ (by rintro k (h|h);omega;cases h);replace B:=Lib.hid B;have J:=Lib.hid (qmr G);clear T X G;go_enter Tryz.func15,Tryz.ntmps15
 go_wp2_with fail
 refine B.out.mono ?_;rintro e w2 ⟨rfl,T2,⟨_,A2,n2,c2,rfl,E,F⟩,X2,-⟩;have I:=F.ents.len;rw[qkh] at I;have hS:=qv7 F (by omega) J.out;have u:=F.Qc;have M:Below w.1.size w w2:=f.trans (X2.below (by rintro k (h|h);omega;cases h) f.size);have i0:=E.cell 0 rfl;clear B;go_wp2_with fail
 refine hS.mono ?_;rintro e w3 ⟨rfl,H,W⟩;have I3:=E.keep (W.block _ E.lt λh=>by have:=u _ h;omega);have B3:Below w.1.size w w3:=M.trans (W.below (λk hk=>by have:=u k hk;omega) M.size);have j0:=I3.cell 0 rfl;clear i0;go_wp2_with fail
 go_ret2;exact⟨A2,n2,c2,rfl,H,B3⟩
def Ih:Za:=⟨⟨#[98]⟩,5,1⟩
def Oj:Za:=⟨⟨#[97]⟩,6,2⟩
theorem qv8:Ih.name≠Oj.name:=λh=>by
 have h2:Ih.name.data.toList=Oj.name.data.toList:=by rw[h]
 exact absurd h2 (by decide)
theorem qy2:Js Ih.name Oj.name=false:=by
 cases h:Js Ih.name Oj.name with
 |false=>rfl
 |true=>exact absurd ((q1s _ _).1 h) (by decide)
theorem qv9 (o:Int):Zo Oj.name ([]++[(o,Ih)])=false:=by
 show (eqS Ih.name Oj.name||false)=false;rw[qzf qv8];rfl
theorem qy3 (o e:Int):Kz (Ae (([]++[(o,Ih)])++[(e,Oj)]))=[Oj,Ih]:=by
 show Dl Oj (Dl Ih [])=_;have h1:Dl Ih []=[Ih]:=rfl;rw[h1];have h2:Jw Oj.name [Ih]=0:=by rw[q5c,qy2];rfl
 unfold Dl;rw[h2];rfl
theorem q7v:Ctx 1 [] []:=qxx ⟨by omega,by omega⟩
section
variable {b:Nat}{w w':World}{d p:Nat}{U Q V:Nat->Prop}{D:DM}{P P':Pl}{m:Nat}{g:Int}{root r:Int}{L:List De}{lim:Nat}
structure Solo (b:Nat)(w:World)(d p:Nat)(U Q V:Nat->Prop)(D:DM)(P:Pl)(root:Int)(L:List De)(lim:Nat)(m:Nat)(g:Int):Prop where
 ed:Ed b w d p U D P (Um root++[]) m g
 sys:Gl b w d p U Q V D P
 tree:Ji (P.store D) root ([]++(Qu 1 L++[]))
 row:Jv L (lim:Int)
 few:L.length<=lim
 kept:P.C.kept=0
theorem Solo.len (_h:Solo b w d p U Q V D P root L lim m g):([]++(Qu 1 L++[])).length=L.length:=by simp[q2g]
theorem Solo.below (h:Solo b w d p U Q V D P root L lim m g)(hb:Below w.1.size w w'):Solo b w' d p U Q V D P root L lim m g:=⟨h.ed.below hb,h.sys.below hb,h.tree,h.row,h.few,h.kept⟩
theorem Solo.wider {l2:Nat}(h:Solo b w d p U Q V D P root L lim m g)(hl:lim<=l2):Solo b w d p U Q V D P root L l2 m g:=⟨h.ed,h.sys,h.tree,h.row.wider (by omega),Nat.le_trans h.few hl,h.kept⟩
theorem Solo.told (h:Solo b w d p U Q V D P root L lim m g)(hl:lim<=100):Told w p (P.store D) root ([]++(Qu 1 L++[])):=
 h.ed.Oa h.tree (q7v.Ql h.row) (by rw[h.len];have:=h.few;omega)
theorem Solo.free (h:Solo b w d p U Q V D P root L lim m g)(hn:2*lim+17+P.C.first<=P.C.n):17<=P.C.free:=by
 have h1:=(h.ed.Qce h.tree).2;rw[h.len] at h1;have:=h.few;have:=h.kept;omega
theorem Solo.change {row:List De}(h:Solo b w d p U Q V D P root L lim m g)(hr:Jv row ((lim:Int)+1))(hl:row.length<=lim+1)(N:Ai b w w' d p U D P P' r [] ([]++(Qu 1 row++[])) m g)(hQ:Gl b w' d p U Q V D P'):Solo b w' d p U Q V D P' r row (lim+1) m g:=
 ⟨N.ed,hQ,N.tree,by exact_mod_cast hr,hl,by rw[qr8 N.like N.n];exact h.kept⟩
theorem Solo.look (h:Solo b w d p U Q V D P root L lim m g)(hl:lim<=100)(n:ByteArray)(F:Option De)(hF:Jy n L=F) :
  Calls Tryz.prog 20 #[.pointer (some ⟨p,0,none⟩),.int .i64 root,.int .i64 1,.string n] w λe w'=>e=.returned (.tuple #[.agg #[.string (kE F).name,.int .i64 (kE F).ino,.int .i64 (kE F).kind],.int .i64 (kC F)])/\Below w.1.size w w':=
 qrd (h.told hl) h.ed.tab q7v h.row (by omega) n F hF
theorem Solo.list (h:Solo b w d p U Q V D P root L lim m g)(hl:lim<=100) :
  Calls Tryz.prog 15 #[.pointer (some ⟨p,0,none⟩),.int .i64 root,.int .i64 1] w λe w'=>∃A n c,e=.returned (.tuple #[.slice A n c,.int .i64 0])/\Gi w' A n c (Kz (Ae L))/\Below w.1.size w w':=
 qrl (h.told hl) h.ed.tab q7v h.row (by omega)
def qy4 (b:Nat)(w:World)(d p:Nat)(U Q V:Nat->Prop)(D:DM)(P:Pl)(L:List De)(lim:Nat)(x:Za)(m:Nat)(g:Int)(t:Bool)(e:Ending)(w':World):Prop:=
 (t=true->e=.returned (.tuple #[.int .i64 0,.int .i64 11])/\Below w.1.size w w')/\
 (t=false->∃r P',e=.returned (.tuple #[.int .i64 r,.int .i64 0])/\Solo b w' d p U Q V D P' r (L++[(Xm L,x)]) (lim+1) m g/\P'.C.n=P.C.n/\r≠0/\Turn V w w')
theorem qmz {H0:List Int}{its:List Qb}(h:Ai b w w' d p U D P P' r H0 its m g)(hi:its≠[]):r≠0:=by
 rcases h.tree with⟨rfl,_⟩|⟨l,_,e,h1,_⟩
 ·exact absurd rfl hi
 ·omega
theorem Solo.add (h:Solo b w d p U Q V D P root L lim m g)(hb:1<b)(hl:lim<=100)(hn:2*lim+17+P.C.first<=P.C.n)(x:Za)(hx:x.may=true)(t:Bool)(ht:Zo x.name L=t) :
  Calls Tryz.prog 21 #[.pointer (some ⟨p,0,none⟩),.int .i64 root,.int .i64 1,.agg #[.string x.name,.int .i64 x.ino,.int .i64 x.kind]] w (qy4 b w d p U Q V D P L lim x m g t):=by
 refine (qv4 h.ed h.sys hb h.tree q7v h.row (by omega) (by omega) (by rw[h.len];have:=h.few;omega) (by simp) (h.free hn) x hx t ht).mono ?_;rintro e w' ⟨h1,h2⟩;refine⟨h1,λh0=>?_⟩;obtain⟨r,P',rfl,N,A,B⟩:=h2 h0;have u:∀y∈L,y.2.name≠x.name:=by
  rcases q3h x.name L with⟨_,_,f⟩|⟨y,_,_,f,_⟩
  ·exact f
  ·rw[ht,h0] at f;cases f
 exact⟨r,P',rfl,h.change (h.row.snoc (by omega) hx u) (by rw[List.length_append];have:=h.few;simp;omega) N A,N.n,qmz N (by simp[Qu]),B⟩
def qrm (b:Nat)(w:World)(d p:Nat)(U Q V:Nat->Prop)(D:DM)(P:Pl)(L':List De)(lim:Nat)(m:Nat)(g:Int)(F:Option De)(e:Ending)(w':World):Prop:=
 (F=none->e=.returned (.tuple #[.int .i64 0,.int .i64 10])/\Below w.1.size w w')/\
 (F≠none->∃r P',e=.returned (.tuple #[.int .i64 r,.int .i64 0])/\Solo b w' d p U Q V D P' r L' (lim+1) m g/\P'.C.n=P.C.n/\Turn V w w')
theorem Solo.remove (h:Solo b w d p U Q V D P root L lim m g)(hb:1<b)(hl:lim<=100)(hn:2*lim+17+P.C.first<=P.C.n)(n:ByteArray)(F:Option De)(hF:Jy n L=F) :
  Calls Tryz.prog 22 #[.pointer (some ⟨p,0,none⟩),.int .i64 root,.int .i64 1,.string n] w (qrm b w d p U Q V D P (Fq n L) lim m g F):=by
 refine (qv5 h.ed h.sys hb h.tree q7v h.row (by omega) (by omega) (by rw[h.len];have:=h.few;omega) (by simp) (h.free hn) n F hF).mono ?_;rintro e w' ⟨h1,h2⟩;refine⟨h1,λh0=>?_⟩;obtain⟨r,P',rfl,N,f,u⟩:=h2 h0;exact⟨r,P',rfl,h.change ((h.row.filter _).wider (by omega)) (by have:=h.few;have:(Fq n L).length<=L.length:=List.length_filter_le _ _;omega) N f,N.n,u⟩
theorem Solo.swap (h:Solo b w d p U Q V D P root L lim m g)(hb:1<b)(hl:lim<=100)(hn:2*lim+17+P.C.first<=P.C.n)(x:Za)(hx:x.may=true)(F:Option De)(hF:Jy x.name L=F) :
  Calls Tryz.prog 25 #[.pointer (some ⟨p,0,none⟩),.int .i64 root,.int .i64 1,.agg #[.string x.name,.int .i64 x.ino,.int .i64 x.kind]] w (qrm b w d p U Q V D P (Vw x L) lim m g F):=by
 refine (qrh h.ed h.sys hb h.tree q7v h.row (by omega) (by omega) (by rw[h.len];have:=h.few;omega) (by simp) (h.free hn) x hx F hF).mono ?_;rintro e w' ⟨h1,h2⟩;refine⟨h1,λh0=>?_⟩;obtain⟨r,P',rfl,N,f,u⟩:=h2 h0;exact⟨r,P',rfl,h.change ((h.row.swap hx).wider (by omega)) (by have:=h.few;simp[Vw];omega) N f,N.n,u⟩
theorem qks {n:Nat}(E:Ed b w d p U D (Pl.fresh n) [] m g):Solo b w d p U (λ_=>False) U D (Pl.fresh n) 0 [] 0 m g:=
 ⟨E,E.Qcz,.inl ⟨rfl,rfl⟩,quv _,Nat.le_refl _,qr9 n⟩
end
section
variable {b:Nat}{w w':World}{d p:Nat}{U Q V:Nat->Prop}{D:DM}{P:Pl}{m:Nat}{g:Int}{root:Int}{L:List De}{lim:Nat}
end
theorem qi8 (w:World)(ht:Tab w):Calls Tryz.prog 12 #[] w λe w'=>e=.returned (.bool true)/\Below w.1.size w w':=by
 have Z:=ht.1;have hM:=Lib.hid (qcn 64 ⟨by omega,by omega⟩ w ht);have u:=qkm 64;have M:(Pl.fresh 64).C.first=4:=by unfold Ct.first;rw[u];rfl
 have a6:=qx3 .eql (.inl rfl);have a8:=qyu;go_enter Tryz.func12,Tryz.ntmps12
 go_wp2_with fail
 refine hM.out.mono ?_;rintro e w2 ⟨p,d,U,D,rfl,T,R,hU⟩;clear hM;have S2:=qks T;have H:=Lib.hid (S2.add Z (by omega) (by rw[u,M];omega) Ih (by decide) false rfl);clear T;go_wp2_with fail
 refine H.out.mono ?_;rintro e w3 ⟨-,X⟩;obtain⟨r3,P3,rfl,S3,n3,b0,W⟩:=X rfl;clear H X;have O:P3.C.first=4:=by unfold Ct.first;rw[n3,u];rfl
 have I:=Lib.hid (S3.add Z (by omega) (by rw[n3,u,O];omega) Oj (by decide) false (qv9 _));go_wp2_with fail
 refine I.out.mono ?_;rintro e w4 ⟨-,Y⟩;obtain⟨r4,P4,rfl,S4,n4,b1,X4⟩:=Y rfl;clear I Y;have J:=Lib.hid (S4.list (by omega));have K:=R.size;have G:Below w.1.size w w4:=(R.trans (W.below hU K)).trans (X4.below hU (Nat.le_trans K W.size));go_wp2_with fail
 refine J.out.mono ?_;rintro e F ⟨A,n,c,rfl,f,b5⟩;have hL:Kz (Ae (([]++[(Xm [],Ih)])++[(Xm ([]++[(Xm [],Ih)]),Oj)]))=[Oj,Ih]:=qy3 _ _;rw[hL] at f;have hn:=f.len;obtain rfl:n=2:=by rw[<-hn];rfl
 obtain⟨E,o,rfl,a7,y⟩:=f.at_ (j:=0) (by omega);obtain⟨a2,o',e,_,B⟩:=f.at_ (j:=1) (by omega);injection e with e;injection e with e1 e2;subst e1 e2;have a1:=f.bounds.1;have x0:F.cell? ⟨E,o,none⟩=some (.string ⟨#[97]⟩):=y 0 _ rfl;have x1:F.cell? ⟨E,o+1,none⟩=some (.int .i64 6):=y 1 _ rfl;have x2:F.cell? ⟨E,o+2,none⟩=some (.int .i64 2):=y 2 _ rfl;have y0:F.cell? ⟨E,o+3,none⟩=some (.string ⟨#[98]⟩):=B 0 _ rfl;have y1:F.cell? ⟨E,o+3+1,none⟩=some (.int .i64 5):=B 1 _ rfl;have y2:F.cell? ⟨E,o+3+2,none⟩=some (.int .i64 1):=B 2 _ rfl;clear y B J hL;go_wp2_with fail
 go_ret;exact⟨rfl,G.trans (b5.mono G.size)⟩
