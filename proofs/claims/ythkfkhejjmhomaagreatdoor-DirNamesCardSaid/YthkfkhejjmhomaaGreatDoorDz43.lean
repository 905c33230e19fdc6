/- The code's dir: List, by the library's sort -/
import Derived.Test.YthkfkhejjmhomaaGreatDoorDz42
import Derived.Test.YthkfkhejjmhomaaGreatDoorDiSt
import Derived.Shelf.SlSortCmp.NoneTotal
namespace Go.Proofs.YthkfkhejjmhomaaGreatDoor
open Go Go.RowKit Go.Proofs
set_option maxHeartbeats 8000000
set_option maxRecDepth 100000
theorem Qq9 (a b:ByteArray)(w:World):Calls Tryz.prog 96 #[.string a,.string b] w λe w'=>e=.returned (.int .i64 (Lib.compareBytes a.data.toList b.data.toList))/\w'=w:=by
 go_enter Tryz.func96,Tryz.ntmps96
 go_wp2;rw[run_callFunc_extern Tryz.func168 (by kernel_rfl) (by kernel_rfl) (by kernel_rfl) (e:=Extern.BytealgCompare.compare) (by kernel_rfl),Lib.run_compareString];simp only[Result.andThen];rw[Oper.upon_value];go_wp2;go_ret;exact⟨rfl,rfl⟩
theorem Qn5 (a b:ByteArray)(w:World):Calls Tryz.prog 53 #[.string a,.string b] w λe w'=>e=.returned (.int .i64 (Lib.compareBytes a.data.toList b.data.toList))/\w'=w:=by
 go_enter Tryz.func53,Tryz.ntmps53
 go_wp2_with (go_at_call 96;refine (Qq9 _ _ _).mono ?_;rintro e w' ⟨rfl,rfl⟩)
 go_ret;exact⟨rfl,rfl⟩
theorem Qx6 (x y:Wh)(W:World):Calls Tryz.prog 52 #[.agg #[.string x.name,.int .i64 x.ino,.int .i64 x.kind],.agg #[.string y.name,.int .i64 y.ino,.int .i64 y.kind]] W λe w'=>e=.returned (.int .i64 (Qd2 x y))/\∃q u,w'=Go.Sort.grow (W.drewN q) u:=by
 unfold Qd2;have f:=λz=>Qn5 x.name y.name z
 generalize Lib.compareBytes x.name.data.toList y.name.data.toList=r at f ⊢;go_enter Tryz.func52,Tryz.ntmps52
 go_wp2_with (go_at_call 53;refine (f _).mono ?_;rintro e w' ⟨rfl,rfl⟩)
 go_ret;exact⟨rfl,0,_,by rw[Go.Sort.alloc_eq_grow,Go.Sort.alloc_eq_grow,Go.Sort.grow_grow];rfl⟩
theorem Qw4:Sort.SWO (Go.Proofs.ltOf Qd2) where
 irrefl x:=by
  show decide (Qd2 x x<0)=false;rw[Qhu];exact Qln _
 trans x y z h1 h2:=by
  have h1:decide (Qd2 x y<0)=true:=h1;have h2:decide (Qd2 y z<0)=true:=h2;show decide (Qd2 x z<0)=true;rw[Qhu] at *;exact Qa8 h1 h2
 ntrans x y z h1 h2:=by
  have h1:decide (Qd2 x y<0)=false:=h1;have h2:decide (Qd2 y z<0)=false:=h2;show decide (Qd2 x z<0)=false;rw[Qhu] at *
  cases h:Nw x.name z.name with
  |false=>rfl
  |true=>
   by_cases e:x.name=y.name
   ·rw[<-e,h] at h2;cases h2
   ·rcases Qc8 e with f|f
    ·rw[f] at h1;cases h1
    ·rw[Qa8 f h] at h2;cases h2
instance:Inhabited Wh:=⟨Wh.zero⟩
theorem Qwy {w:World}{blk off n:Nat}{d:Array Wh}{os:Array Obj}:Turn (λg=>g=blk) w (sortWorldK Wh.vs 3 w blk off n d os):=by
 have q:(sortWorldK Wh.vs 3 w blk off n d os).1=(w.1.modify blk (λo=>match o with
  |.cells c t f=>.cells (Go.Sort.putCells id off (Go.Sort.flatK Wh.vs 3 d) c) t f
  |o=>o))++os:=rfl
 refine⟨rfl,rfl,rfl,?_,λg u e=>?_⟩
 ·rw[q];simp
 ·rw[q,Array.getElem?_append_left (by simpa using u),Array.getElem?_modify,if_neg λh=>e h.symm]
theorem Qor {d:Array Wh}{j i:Nat}(e:j<d.size)(hi:i<3):(Go.Sort.flatK Wh.vs 3 d)[j*3+i]! = (Wh.vs d[j]!)[i]!:=by
 rw[Go.Sort.get_flatK _ _ _ _ (by omega),show (j*3+i) / 3=j by omega,show (j*3+i) % 3=i by omega]
theorem holds_of {w:World}{base n c:Nat}{g:Nat}{l:List Wh}(h:Qct w base (some ⟨g,0,none⟩) n c l):Go.Sort.HoldsK Wh.vs 3 w g 0 l.toArray:=by
 have K:=h.ents.len;have F:=h.ents;rcases h.1.2 with⟨y,_⟩|⟨I,cap,z,y,_,G,_⟩
 ·injection y with h1;cases h1
 injection y with h1;injection h1 with h1;injection h1 with h1;subst h1;intro t u;rw[Go.Sort.size_flatK] at u;have u:t<l.length*3:=by simpa using u
 have q:t / 3<l.length:=by omega
 obtain⟨J,M,e,_,H⟩:=F.at_ (j:=t / 3) (by omega);injection e with e;injection e with A B;subst A B;have hi:t % 3<3:=by omega
 have f:(Qc4 l (t / 3)).vs.length=3:=rfl;have h2:=H (t % 3) _ (List.getElem?_eq_getElem (by rw[f];exact hi));refine⟨?_,?_⟩
 ·rw[show t=t / 3*3+t % 3 by omega,Qor (by simpa using q) hi,getElem!_pos l.toArray (t / 3) (by simpa using q)];rw[show 0+(t / 3*3+t % 3)=0+t / 3*3+t % 3 by omega];refine h2.trans ?_;have E:Qc4 l (t / 3)=l.toArray[t / 3]'(by simpa using q):=Qii q;rw[E,getElem!_pos (Wh.vs _) (t % 3) hi];rfl
 ·unfold World.frozen?;rw[G];simp
theorem Zcf {w:World}{g c:Nat}{d:Array Wh}(h:Go.Sort.HoldsK Wh.vs 3 w g 0 d)(z:g<w.1.size)(y:d.size<=c)(hm:c<=maxLen):Qcx w (some ⟨g,0,none⟩) d.size c d.toList:=by
 refine⟨by simp,y,hm,λj x f=>?_⟩;rw[List.getElem?_map] at f;have q:j<d.size:=by
  by_cases h1:j<d.toList.length
  ·simpa using h1
  ·rw[List.getElem?_eq_none (by omega)] at f;cases f
 rw[List.getElem?_eq_getElem (by simpa using q)] at f;obtain rfl:Wh.vs d.toList[j]=x:=Option.some.inj f;refine⟨g,0,rfl,z,rfl,λi v u=>?_⟩;have hi:i<3:=(List.getElem?_eq_some_iff.1 u).1;obtain⟨h1,_⟩:=h (j*3+i) (by rw[Go.Sort.size_flatK];omega);rw[Qor q hi] at h1;rw[Nat.zero_add] at h1 ⊢;refine h1.trans ?_;rw[getElem!_pos d j q];have e:d[j]=d.toList[j]:=rfl;rw[e];have:(Wh.vs d.toList[j])[i]! = v:=by
  rw[List.getElem!_eq_getElem?_getD,u];rfl
 rw[this];rfl
def Zfj (b lb:Nat)(L:List De)(T:Nat->Prop)(w:World):Prop:=
 b<=w.1.size/\∃A n c,(T=λk=>k=lb\/Xq A=some k)/\IB w lb [.slice A n c]/\Qct w b A n c (Qcw L)
theorem Qrg {i:Int}{x:De}{b lb n c:Nat}{A:Option Addr}{w:World}{l:List Wh}(h1:lb<b)(hb:b<=w.1.size)(hn:n<=1000)(I:IB w lb [.slice A n c])(O:Qct w b A n c l) :
  Calls Tryz.prog 50 #[.agg #[.int .i64 i,.int .i64 2,.int .i64 x.1],.agg #[.string x.2.name,.int .i64 x.2.ino,.int .i64 x.2.kind],.pointer (some ⟨lb,0,none⟩)] w λe w'=>e=.returned (.tuple #[])/\
   ∃y K,IB w' lb [.slice y (n+1) K]/\Qct w' b y (n+1) K (l++[x.2])/\Turn (λk=>k=lb\/Xq A=some k) w w'/\(Xq y=Xq A\/∀k,Xq y=some k->w.1.size<=k):=by
 have l0:=I.lt;have i0:=I.cell 0 rfl;obtain⟨W,X,B,G⟩:=Qj9 w [.int .i64 i,.int .i64 2,.int .i64 x.1] x.2.vs 45 32;obtain⟨q,u⟩:∃q,((w.alloc (.cells #[.int .i64 i,.int .i64 2,.int .i64 x.1] 45)).alloc (.cells #[.string x.2.name,.int .i64 x.2.ino,.int .i64 x.2.kind] 32))=q:=⟨_,rfl⟩;replace B:Below w.1.size w q:=by rw[<-u];exact B
 replace G:q.1.size=w.1.size+2:=by rw[<-u];exact G
 clear W X;have M:=Qyj q x.2;rw[G] at M;have b3:Below q.1.size q (q.alloc (.cells #[.string x.2.name,.int .i64 x.2.ino,.int .i64 x.2.kind] 32)):=Ib;have f:Below w.1.size w (q.alloc (.cells #[.string x.2.name,.int .i64 x.2.ino,.int .i64 x.2.kind] 32)):=B.trans (b3.mono (by omega));have Y:=O.below f;have J:=I.below f I.lt;have hO:=O.Zx;have z3:=f.size;subst u;go_enter Tryz.func50,Tryz.ntmps50
 go_wp2_with (first
  |(at_builtin;refine Qqo rfl (.tmp 5) (.tmp 7) rfl rfl Y _ 1 1 [x.2] rfl M (by omega) (by omega) ?_;intro H c4 T Z X4 E;have z:=J.keep (X4.block lb J.lt (λh=>by have:=hO lb h;omega));have j0:=z.cell 0 rfl;have jf:=z.fz 0)
  |fail)
 have R:Turn (λk=>k=lb) T (T.setCell ⟨lb,0,none⟩ (.slice H (n+1) c4)):=Gi (S:=λk=>k=lb) _ rfl;have z4:=X4.size;go_end0
 refine⟨rfl,H,c4,z.set 0 _,Qr.keep Z (λg hg hl=>R.block g hl (by omega)),?_,?_⟩
 ·exact ((Uk f).trans (X4.mono (S':=λk=>k=lb\/Xq A=some k) λk h=>.inr h) λk h=>.inl h).trans (R.mono (S':=λk=>k=lb\/Xq A=some k) λk h=>.inl h) λk h=>.inl h
 ·rcases E with h|h
  ·exact .inl h
  ·refine .inr λk F=>?_
   rw[h] at F;injection F with F;omega
theorem Qv7 {b lb:Nat}(i:Int)(h:lb<b):Zbp 50 #[.pointer (some ⟨lb,0,none⟩)] i (Zfj b lb) where
 ent:=enters_of Tryz.func50 (by kernel_rfl) rfl
 keep:=λ⟨u,A,n,c,h1,h2,q⟩ y=>⟨Nat.le_trans u y.size,A,n,c,h1,h2.below y h2.lt,q.below y⟩
 call:=by
  rintro L T w x ⟨u,A,n,c,rfl,h2,q⟩ I _;have hn:=q.ents.len;rw[Qjs] at hn;refine (Qrg (i:=i) (x:=x) h u (by omega) h2 q).mono ?_;rintro e w' ⟨rfl,B,E,F,G,z,H⟩;refine⟨rfl,_,⟨Nat.le_trans u z.size,B,n+1,E,rfl,F,?_⟩,z,λk f=>?_⟩
  ·rw[show Qcw (L++[x])=Qcw L++[x.2] from Zau L x.1 x.2];exact G
  ·rcases f with f|f
   ·exact .inl (.inl f)
   ·rcases H with h|h
    ·exact .inl (.inr (h▸f))
    ·exact .inr (h k f)
theorem Zav {b n c:Nat}{A:Option Addr}{w:World}{l:List Wh}(O:Qct w b A n c l)(hn:n<=1000)(hd:l.Pairwise λx y=>x.name≠y.name) :
  Calls Tryz.prog 51 #[.slice A n c,.func (.func 52) #[] #[]] w λe w'=>e=.returned (.tuple #[])/\Qcx w' A n c (Rt l)/\Turn (λk=>Xq A=some k) w w':=by
 have E:=O.ents.len;by_cases h0:n=0
 ·subst h0;obtain rfl:l=[]:=List.eq_nil_of_length_eq_zero E;have f:=AnyF.slices_SortFunc_none Qp5 A c (.func (.func 52) #[] #[]) w;change Calls Tryz.prog 51 _ _ _ at f;refine f.mono ?_;rintro e w' ⟨rfl,rfl⟩;exact⟨rfl,O.ents,Turn.refl _ _⟩
 ·obtain⟨g,F,e,Y,G⟩:=Qgo O.1 (by omega);injection e with R e2 e3;subst R;have X:F=c:=by omega
  subst X;have I:g<w.1.size:=(O.Zx g rfl).2;have W:∀q w,(callFunc 52 q).run Tryz.prog w=.ok (.enter 52 q) w:=enters_of Tryz.func52 (by kernel_rfl) rfl;have B:CmpLays Tryz.prog 52 #[] Wh.vs 3 Qd2 g 0 l.toArray.size w:=λ_ _ _ _ x y=>Qx6 x y _
  have f:=AnyQ.slices_SortFunc Qp5 3 Tryz.isAgg32 Tryz.sizeOf32 Wh.vs (λ_=>rfl) (λx v hv=>Qui x v hv) Qd2 Qw4 52 #[] g 0 F l.toArray w W B (holds_of O) I (by simp;omega);rw[show l.toArray.size=n by simpa using E] at f;change Calls Tryz.prog 51 _ _ _ at f;refine f.mono ?_;rintro e w' ⟨rfl,u,m,os,hp,hs,rfl⟩;have z:Sort.PermIn 0 l.toArray.size l.toArray u:=by rw[show l.toArray.size=n by simpa using E];exact hp
  have J:Sort.SortedIn (λx y=>decide (Qd2 x y<0)) 0 l.toArray.size u:=by rw[show l.toArray.size=n by simpa using E];exact hs
  have hz:u.size=n:=by rw[z.1];simpa using E
  have H:=Qwx z J hd;have T:=Qwy (w:=w) (blk:=g) (off:=0) (n:=m) (d:=u) (os:=os);have M:Go.Sort.HoldsK Wh.vs 3 (sortWorldK Wh.vs 3 w g 0 m u os) g 0 u:=holdsK_sortWorldK_c Wh.vs 3 w g 0 l.toArray u m os (holds_of O) I z.1;have K:=Zcf (c:=F) M (Nat.lt_of_lt_of_le I T.size) (by omega) G;rw[hz,H] at K;refine⟨rfl,K,T.mono λk Z=>by rw[Z];rfl⟩
theorem Qu9 {w:World}{p:Nat}{R:Int->Nd × Int}{root i:Int}{A C:List Qq}{L:List De}{lim:Int}(T:Told w p R root (A++(Lc i L++C)))(M:Tab w)(X:Ctx i A C)(E:Ov L lim)(hl:lim<=2147483648) :
  Calls Tryz.prog 15 #[.pointer (some ⟨p,0,none⟩),.int .i64 root,.int .i64 i] w λe w'=>∃A n c,e=.returned (.tuple #[.slice A n c,.int .i64 0])/\Qcx w' A n c (Rt (Qcw L))/\Below w.1.size w w':=by
 have u:=T.len;have a1:L.length<=150:=by rw[List.length_append,List.length_append,Ru] at u;omega
 have K:IB (w.alloc (.cells #[.slice none 0 0] 26)) w.1.size [.slice none 0 0]:=IB.new w _ _;have f:Below w.1.size w (w.alloc (.cells #[.slice none 0 0] 26)):=Ib;have z1:(w.alloc (.cells #[.slice none 0 0] 26)).1.size=w.1.size+1:=by simp
 obtain⟨O,I⟩:∃O,w.alloc (.cells #[.slice none 0 0] 26)=O:=⟨_,rfl⟩;rw[I] at K f z1;have y:=Qgf (T.below f) (M.below f M.1) X E hl (Qv7 (b:=w.1.size+1) (lb:=w.1.size) i (by omega)) (T0:=λk=>k=w.1.size\/Xq none=some k) ⟨by omega,none,0,0,rfl,K,Qvd _ _⟩ (by rintro k (h|h);omega;cases h);replace y:=Lib.hid y;have H:=Lib.hid (rows_names E);clear T X E;go_enter Tryz.func15,Tryz.ntmps15
 go_wp2_with fail
 refine y.out.mono ?_;rintro e w2 ⟨rfl,T2,⟨_,W,n2,c2,rfl,z,B⟩,X2,-⟩;have G:=B.ents.len;rw[Qjs] at G;have hS:=Zav B (by omega) H.out;have q:=B.Zx;have J:Below w.1.size w w2:=f.trans (X2.below (by rintro k (h|h);omega;cases h) f.size);have i0:=z.cell 0 rfl;clear y;go_wp2_with fail
 refine hS.mono ?_;rintro e w3 ⟨rfl,F,X3⟩;have Z:=z.keep (X3.block _ z.lt λh=>by have:=q _ h;omega);have Y:Below w.1.size w w3:=J.trans (X3.below (λk hk=>by have:=q k hk;omega) J.size);have j0:=Z.cell 0 rfl;clear i0;go_wp2_with fail
 go_ret2;exact⟨W,n2,c2,rfl,F,Y⟩
def exB:Wh:=⟨⟨#[98]⟩,5,1⟩
def exA:Wh:=⟨⟨#[97]⟩,6,2⟩
theorem Qyq:exB.name≠exA.name:=λh=>by
 have h2:exB.name.data.toList=exA.name.data.toList:=by rw[h]
 exact absurd h2 (by decide)
theorem Zcg:Nw exB.name exA.name=false:=by
 cases h:Nw exB.name exA.name with
 |false=>rfl
 |true=>exact absurd ((Ot _ _).1 h) (by decide)
theorem Qyr (o:Int):Rq exA.name ([]++[(o,exB)])=false:=by
 show (eqS exB.name exA.name||false)=false;rw[Qyl Qyq];rfl
theorem Zch (o e:Int):Rt (Qcw (([]++[(o,exB)])++[(e,exA)]))=[exA,exB]:=by
 show Qki exA (Qki exB [])=_;have h1:Qki exB []=[exB]:=rfl;rw[h1];have h2:Og exA.name [exB]=0:=by rw[Qb0,Zcg];rfl
 unfold Qki;rw[h2];rfl
theorem Qe7:Ctx 1 [] []:=Zb7 ⟨by omega,by omega⟩
section
variable {b:Nat}{w w':World}{d p:Nat}{U Q V:Nat->Prop}{D:DM}{P P':Pl}{m:Nat}{g:Int}{root r:Int}{L:List De}{lim:Nat}
structure Solo (b:Nat)(w:World)(d p:Nat)(U Q V:Nat->Prop)(D:DM)(P:Pl)(root:Int)(L:List De)(lim:Nat)(m:Nat)(g:Int):Prop where
 ed:We7 b w d p U D P (Qfv root++[]) m g
 sys:Qcu b w d p U Q V D P
 tree:Ua (P.store D) root ([]++(Lc 1 L++[]))
 row:Ov L (lim:Int)
 few:L.length<=lim
 kept:P.C.kept=0
theorem Solo.len (_h:Solo b w d p U Q V D P root L lim m g):([]++(Lc 1 L++[])).length=L.length:=by simp[Ru]
theorem Solo.below (h:Solo b w d p U Q V D P root L lim m g)(hb:Below w.1.size w w'):Solo b w' d p U Q V D P root L lim m g:=⟨h.ed.below hb,h.sys.below hb,h.tree,h.row,h.few,h.kept⟩
theorem Solo.wider {l2:Nat}(h:Solo b w d p U Q V D P root L lim m g)(hl:lim<=l2):Solo b w d p U Q V D P root L l2 m g:=⟨h.ed,h.sys,h.tree,h.row.wider (by omega),Nat.le_trans h.few hl,h.kept⟩
theorem Solo.told (h:Solo b w d p U Q V D P root L lim m g)(hl:lim<=100):Told w p (P.store D) root ([]++(Lc 1 L++[])):=
 h.ed.Zbb h.tree (Qe7.Zt h.row) (by rw[h.len];have:=h.few;omega)
theorem Solo.free (h:Solo b w d p U Q V D P root L lim m g)(hn:2*lim+17+P.C.first<=P.C.n):17<=P.C.free:=by
 have h1:=(h.ed.Zfz h.tree).2;rw[h.len] at h1;have:=h.few;have:=h.kept;omega
theorem Solo.change {row:List De}(h:Solo b w d p U Q V D P root L lim m g)(hr:Ov row ((lim:Int)+1))(hl:row.length<=lim+1)(N:Qg4 b w w' d p U D P P' r [] ([]++(Lc 1 row++[])) m g)(hQ:Qcu b w' d p U Q V D P'):Solo b w' d p U Q V D P' r row (lim+1) m g:=
 ⟨N.ed,hQ,N.tree,by exact_mod_cast hr,hl,by rw[Qv0 N.like N.n];exact h.kept⟩
theorem Solo.look (h:Solo b w d p U Q V D P root L lim m g)(hl:lim<=100)(n:ByteArray)(F:Option De)(hF:Ol n L=F) :
  Calls Tryz.prog 20 #[.pointer (some ⟨p,0,none⟩),.int .i64 root,.int .i64 1,.string n] w λe w'=>e=.returned (.tuple #[.agg #[.string (kE F).name,.int .i64 (kE F).ino,.int .i64 (kE F).kind],.int .i64 (kC F)])/\Below w.1.size w w':=
 Qu4 (h.told hl) h.ed.tab Qe7 h.row (by omega) n F hF
theorem Solo.list (h:Solo b w d p U Q V D P root L lim m g)(hl:lim<=100) :
  Calls Tryz.prog 15 #[.pointer (some ⟨p,0,none⟩),.int .i64 root,.int .i64 1] w λe w'=>∃A n c,e=.returned (.tuple #[.slice A n c,.int .i64 0])/\Qcx w' A n c (Rt (Qcw L))/\Below w.1.size w w':=
 Qu9 (h.told hl) h.ed.tab Qe7 h.row (by omega)
def Zbq (b:Nat)(w:World)(d p:Nat)(U Q V:Nat->Prop)(D:DM)(P:Pl)(L:List De)(lim:Nat)(x:Wh)(m:Nat)(g:Int)(t:Bool)(e:Ending)(w':World):Prop:=
 (t=true->e=.returned (.tuple #[.int .i64 0,.int .i64 11])/\Below w.1.size w w')/\
 (t=false->∃r P',e=.returned (.tuple #[.int .i64 r,.int .i64 0])/\Solo b w' d p U Q V D P' r (L++[(Om L,x)]) (lim+1) m g/\P'.C.n=P.C.n/\r≠0/\Turn V w w')
theorem Qri {H0:List Int}{its:List Qq}(h:Qg4 b w w' d p U D P P' r H0 its m g)(hi:its≠[]):r≠0:=by
 rcases h.tree with⟨rfl,_⟩|⟨l,_,e,h1,_⟩
 ·exact absurd rfl hi
 ·omega
theorem Solo.add (h:Solo b w d p U Q V D P root L lim m g)(hb:1<b)(hl:lim<=100)(hn:2*lim+17+P.C.first<=P.C.n)(x:Wh)(hx:x.may=true)(t:Bool)(ht:Rq x.name L=t) :
  Calls Tryz.prog 21 #[.pointer (some ⟨p,0,none⟩),.int .i64 root,.int .i64 1,.agg #[.string x.name,.int .i64 x.ino,.int .i64 x.kind]] w (Zbq b w d p U Q V D P L lim x m g t):=by
 refine (Qx5 h.ed h.sys hb h.tree Qe7 h.row (by omega) (by omega) (by rw[h.len];have:=h.few;omega) (by simp) (h.free hn) x hx t ht).mono ?_;rintro e w' ⟨h1,h2⟩;refine⟨h1,λh0=>?_⟩;obtain⟨r,P',rfl,N,u,z⟩:=h2 h0;have q:∀y∈L,y.2.name≠x.name:=by
  rcases Qb9 x.name L with⟨_,_,f⟩|⟨y,_,_,f,_⟩
  ·exact f
  ·rw[ht,h0] at f;cases f
 exact⟨r,P',rfl,h.change (h.row.snoc (by omega) hx q) (by rw[List.length_append];have:=h.few;simp;omega) N u,N.n,Qri N (by simp[Lc]),z⟩
def Zbr (b:Nat)(w:World)(d p:Nat)(U Q V:Nat->Prop)(D:DM)(P:Pl)(L':List De)(lim:Nat)(m:Nat)(g:Int)(F:Option De)(e:Ending)(w':World):Prop:=
 (F=none->e=.returned (.tuple #[.int .i64 0,.int .i64 10])/\Below w.1.size w w')/\
 (F≠none->∃r P',e=.returned (.tuple #[.int .i64 r,.int .i64 0])/\Solo b w' d p U Q V D P' r L' (lim+1) m g/\P'.C.n=P.C.n/\Turn V w w')
theorem Solo.remove (h:Solo b w d p U Q V D P root L lim m g)(hb:1<b)(hl:lim<=100)(hn:2*lim+17+P.C.first<=P.C.n)(n:ByteArray)(F:Option De)(hF:Ol n L=F) :
  Calls Tryz.prog 22 #[.pointer (some ⟨p,0,none⟩),.int .i64 root,.int .i64 1,.string n] w (Zbr b w d p U Q V D P (Qe9 n L) lim m g F):=by
 refine (Qx9 h.ed h.sys hb h.tree Qe7 h.row (by omega) (by omega) (by rw[h.len];have:=h.few;omega) (by simp) (h.free hn) n F hF).mono ?_;rintro e w' ⟨h1,h2⟩;refine⟨h1,λh0=>?_⟩;obtain⟨r,P',rfl,N,f,q⟩:=h2 h0;exact⟨r,P',rfl,h.change ((h.row.filter _).wider (by omega)) (by have:=h.few;have:(Qe9 n L).length<=L.length:=List.length_filter_le _ _;omega) N f,N.n,q⟩
theorem Qp7 {n:Nat}(E:We7 b w d p U D (Pl.fresh n) [] m g):Solo b w d p U (λ_=>False) U D (Pl.fresh n) 0 [] 0 m g:=
 ⟨E,E.Zge,.inl ⟨rfl,rfl⟩,Qyd _,Nat.le_refl _,Qv1 n⟩
end
section
variable {b:Nat}{w w':World}{d p:Nat}{U Q V:Nat->Prop}{D:DM}{P:Pl}{m:Nat}{g:Int}{root:Int}{L:List De}{lim:Nat}
theorem Solo.own (h:Solo b w d p U Q V D P root L lim m g)(hb:1<b){S' Q':Nat->Prop}(t:Turn S' w w')(hS:∀k,S' k->Q k)(hU:∀k,S' k->¬U k)(hQ:∀k,Q' k->Q k\/(w.1.size<=k/\k<w'.1.size)):Solo b w' d p U Q' V D P root L lim m g:=by
 obtain⟨h1,h2⟩:=h.ed.own h.sys hb t hS hU hQ;exact⟨h1,h2,h.tree,h.row,h.few,h.kept⟩
theorem Solo.more (h:Solo b w d p U Q V D P root L lim m g)(hb:Below w.1.size w w'){Q':Nat->Prop}(hQ:∀k,Q' k->Q k\/(w.1.size<=k/\k<w'.1.size)):Solo b w' d p U Q' V D P root L lim m g:=
 ⟨h.ed.below hb,h.sys.more hb hQ,h.tree,h.row,h.few,h.kept⟩
end
theorem Qp6 (w:World)(ht:Tab w):Calls Tryz.prog 12 #[] w λe w'=>e=.returned (.bool true)/\Below w.1.size w w':=by
 have W:=ht.1;have Y:=Lib.hid (Qi6 64 ⟨by omega,by omega⟩ w ht);have q:=Qov 64;have J:(Pl.fresh 64).C.first=4:=by unfold Ct.first;rw[q];rfl
 have a6:=Qhx .eql (.inl rfl);have a8:=Zej;go_enter Tryz.func12,Tryz.ntmps12
 go_wp2_with fail
 refine Y.out.mono ?_;rintro e w2 ⟨p,d,U,D,rfl,O,M,Z⟩;clear Y;have S2:=Qp7 O;have F:=Lib.hid (S2.add W (by omega) (by rw[q,J];omega) exB (by decide) false rfl);clear O;go_wp2_with fail
 refine F.out.mono ?_;rintro e w3 ⟨-,R⟩;obtain⟨r3,P3,rfl,S3,n3,b0,X3⟩:=R rfl;clear F R;have K:P3.C.first=4:=by unfold Ct.first;rw[n3,q];rfl
 have G:=Lib.hid (S3.add W (by omega) (by rw[n3,q,K];omega) exA (by decide) false (Qyr _));go_wp2_with fail
 refine G.out.mono ?_;rintro e w4 ⟨-,T⟩;obtain⟨r4,P4,rfl,S4,n4,b1,X4⟩:=T rfl;clear G T;have H:=Lib.hid (S4.list (by omega));have I:=M.size;have E:Below w.1.size w w4:=(M.trans (X3.below Z I)).trans (X4.below Z (Nat.le_trans I X3.size));go_wp2_with fail
 refine H.out.mono ?_;rintro e B ⟨A,n,c,rfl,f,b5⟩;have X:Rt (Qcw (([]++[(Om [],exB)])++[(Om ([]++[(Om [],exB)]),exA)]))=[exA,exB]:=Zch _ _;rw[X] at f;have hn:=f.len;obtain rfl:n=2:=by rw[<-hn];rfl
 obtain⟨z,o,rfl,a7,u⟩:=f.at_ (j:=0) (by omega);obtain⟨a2,o',e,_,y⟩:=f.at_ (j:=1) (by omega);injection e with e;injection e with e1 e2;subst e1 e2;have a1:=f.bounds.1;have x0:B.cell? ⟨z,o,none⟩=some (.string ⟨#[97]⟩):=u 0 _ rfl;have x1:B.cell? ⟨z,o+1,none⟩=some (.int .i64 6):=u 1 _ rfl;have x2:B.cell? ⟨z,o+2,none⟩=some (.int .i64 2):=u 2 _ rfl;have y0:B.cell? ⟨z,o+3,none⟩=some (.string ⟨#[98]⟩):=y 0 _ rfl;have y1:B.cell? ⟨z,o+3+1,none⟩=some (.int .i64 5):=y 1 _ rfl;have y2:B.cell? ⟨z,o+3+2,none⟩=some (.int .i64 1):=y 2 _ rfl;clear u y H X;go_wp2_with fail
 go_ret;exact⟨rfl,E.trans (b5.mono E.size)⟩
