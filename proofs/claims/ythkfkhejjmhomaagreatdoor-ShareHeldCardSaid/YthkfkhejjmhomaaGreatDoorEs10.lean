/- The reference's May: whether a node may be -/
import Derived.Test.YthkfkhejjmhomaaGreatDoorEs9
namespace Go.Proofs.YthkfkhejjmhomaaGreatDoor
open Go Go.RowKit Go.Proofs
set_option maxHeartbeats 8000000
set_option maxRecDepth 100000
def q68 (N:Nd):Bool:=N.items.all λx=>decide (x.v.length<=28)
def Gv (N:Nd):Bool:=N.kids.all λx=>decide (1<=x.a/\x.a<2048)
def Nd.may (N:Nd):Bool:=
 if N.lvl=0 then q68 N&&(rises N.keys&&decide (N.kids.length=0/\1<=N.items.length/\N.items.length<=6))
 else Gv N&&(rises N.keys&&decide (1<=N.lvl/\N.lvl<8/\N.items.length=0/\2<=N.kids.length/\N.kids.length<=12))
theorem qhj {N:Nd}(h:∀j,j<N.items.length->(Qz N.items j).v.length<=28):q68 N=true:=by
 unfold q68;rw[List.all_eq_true];intro x u;obtain⟨j,f⟩:=List.mem_iff_getElem?.1 u;have p:=(List.getElem?_eq_some_iff.1 f).1;have:=q1x p;rw[f] at this;obtain rfl:=Option.some.inj this;exact decide_eq_true (h j p)
theorem qlr {N:Nd}(h:∀j,j<N.kids.length->1<=(Qh N.kids j).a/\(Qh N.kids j).a<2048):Gv N=true:=by
 unfold Gv;rw[List.all_eq_true];intro x u;obtain⟨j,f⟩:=List.mem_iff_getElem?.1 u;have p:=(List.getElem?_eq_some_iff.1 f).1;have:=q11 p;rw[f] at this;obtain rfl:=Option.some.inj this;exact decide_eq_true (h j p)
theorem qwe (X:Addr)(c:Nat)(l:List UInt8)(w:World)(J:Sl w (some X) 256 c l)(ht:Tab w)(y:¬l.take 4=Uw l):q24 (some X) 256 c l w:=by
 unfold q24;have Z:=J.len;have Y:=J.cap;have hm:=J.max;unfold maxLen at hm;have W:=HB.zero w 198;have p:Below w.1.size w (w.alloc (.cells #[.int .i64 0,.int .i64 0,.int .i64 0,.int .i64 0,.int .i64 0] 198)):=Qn;have H:w.1.size<(w.alloc (.cells #[.int .i64 0,.int .i64 0,.int .i64 0,.int .i64 0,.int .i64 0] 198)).1.size:=by simp
 have D:okB l=false:=decide_eq_false (λh=>y h.2.1);have h1:Yf l=Hd.zero:=by unfold Yf;rw[if_neg (by rw[D];simp)]
 have h2:Ul l=[]:=by unfold Ul;rw[if_neg (by rw[D];simp)]
 have h3:Nh l=3:=by unfold Nh;rw[if_neg (by rw[D];simp)]
 rw[h1,h2,h3];have u:¬((⟨(l.take 4).toArray⟩:ByteArray)=⟨(Uw l).toArray⟩):=λh=>y (by injection h with h;simpa using h)
 have G:((⟨(l.take 4).toArray⟩:ByteArray).toList==(⟨(Uw l).toArray⟩:ByteArray).toList)=false:=by rw[ByteArray.toList_eq,ByteArray.toList_eq];simpa using y
 generalize hS:(⟨(Uw l).toArray⟩:ByteArray)=S1 at u G;generalize F:(⟨(l.take 4).toArray⟩:ByteArray)=S2 at u G;go_enter Tryz.func139,Tryz.ntmps139
 go_wp2;generalize (w.alloc (.cells #[.int .i64 0,.int .i64 0,.int .i64 0,.int .i64 0,.int .i64 0] 198))=U at W p H ⊢;have E:=J.below p;have T:=ht.below p ht.1;have k1:=q7h (E.take (k:=4) (by omega)).drew;rw[F] at k1;go_region_with (first
  |(go_at_call 200;refine (q8s _ 256 c l _ E.drew (by omega) T).mono ?_;rintro e w3 ⟨A3,n3,c3,rfl,I,M⟩;have f:Below U.1.size U w3:=Below.trans (Below.refl _ U).drew M;have k2:=q7h ((E.below f).take (k:=4) (by omega));have k3:=q7h I.sl;rw[F] at k2;rw[hS] at k3)
  |fail)
 all_goals
  have K:=W.below f H;have a0:=f.size;go_wp2_with (first
   |(refine Rl rfl (.tmp 2) (.tmp 19) rfl w.1.size rfl Hd.zero _ rfl (by exact K) (by show w.1.size<w3.1.size;omega) ?_;intro w4 R O _)
   |fail)
  refine bodyPost_ret (q0x Tryz.results139 rfl (q8t R)) rfl ?_;exact⟨_,_,_,rfl,q59 _ _ _,p.trans ((f.mono (by omega)).trans (O _ (Nat.le_refl _)))⟩
theorem q6q (A:Option Addr)(n c:Nat)(l:List UInt8)(w:World)(D:Sl w A n c l)(K:Tab w):q24 A n c l w:=by
 have J:=D.len;by_cases hn:n=256
 ·subst hn;obtain⟨I,rfl,_⟩:=D.cell (k:=0) (by omega);by_cases u:l.take 4=Uw l
  ·exact qy4 I c l w D K u
  ·exact qwe I c l w D K u
 ·unfold q24;have f:okB l=false:=decide_eq_false (λh=>hn (by omega));have h1:Yf l=Hd.zero:=by unfold Yf;rw[if_neg (by rw[f];simp)]
  have h2:Ul l=[]:=by unfold Ul;rw[if_neg (by rw[f];simp)]
  have M:Nh l=3:=by unfold Nh;rw[if_neg (by rw[f];simp)]
  rw[h1,h2,M];have F:¬(n:Int)=256:=by omega
  have O:decide ((n:Int)=256)=false:=decide_eq_false F;have H:=HB.zero w 198;have p:Below w.1.size w (w.alloc (.cells #[.int .i64 0,.int .i64 0,.int .i64 0,.int .i64 0,.int .i64 0] 198)):=Qn;have y:w.1.size<(w.alloc (.cells #[.int .i64 0,.int .i64 0,.int .i64 0,.int .i64 0,.int .i64 0] 198)).1.size:=by simp
  go_enter Tryz.func139,Tryz.ntmps139
  go_wp2;generalize (w.alloc (.cells #[.int .i64 0,.int .i64 0,.int .i64 0,.int .i64 0,.int .i64 0] 198))=R at H p y ⊢;go_quiet (fail)
  go_wp2_with (first
   |(refine Rl rfl (.tmp 2) (.tmp 19) rfl w.1.size rfl Hd.zero _ rfl (by exact H) (by exact y) ?_;intro T G E _)
   |fail)
  refine bodyPost_ret (q0x Tryz.results139 rfl (q8t G)) rfl ?_;exact⟨_,_,_,rfl,q59 _ _ _,(q1f p _).trans (E _ (Nat.le_refl _))⟩
theorem qyb (l:List UInt8)(x n:Int)(h1:1<=n)(h2:n<=8):Bo l x n=l++Zc x n.toNat:=if_pos ⟨h1,h2⟩
section
variable {P:Program}{t e:TypeId}(w:World)
end
def Eu (x:Qg):List UInt8:=x.k.bytes++(Zc (x.v.length:Int) 1++x.v)
def Es (x:Qm):List UInt8:=x.k.bytes++Zc x.a 2
def Nd.body (N:Nd):List UInt8:=N.items.flatMap Eu++N.kids.flatMap Es
def Nd.head (N:Nd)(addr gen:Int):Hd:=⟨if 0<N.lvl then 4 else 3,addr,(N.items.length:Int)+(N.kids.length:Int),N.lvl,gen⟩
def Jr (N:Nd)(addr gen:Int):List UInt8:=if N.may=true then Xg (N.head addr gen) N.body else []
def Zm (N:Nd)(addr gen:Int):Int:=if N.may=true then Xb (N.head addr gen) N.body else 1
theorem q26 {N:Nd}(h:N.may=true):N.items.length<=6/\N.kids.length<=12/\(∀j,j<N.items.length->(Qz N.items j).v.length<=28)/\0<=N.lvl:=by
 unfold Nd.may at h;split at h
 ·rename_i p;rw[Bool.and_eq_true,Bool.and_eq_true] at h;obtain⟨h1,_,h2⟩:=h;have h2:=of_decide_eq_true h2;refine⟨h2.2.2,by omega,λj f=>?_,by omega⟩;unfold q68 at h1;exact of_decide_eq_true (List.all_eq_true.1 h1 _ (List.mem_of_getElem? (q1x f)))
 ·rw[Bool.and_eq_true,Bool.and_eq_true] at h;obtain⟨_,_,h2⟩:=h;have h2:=of_decide_eq_true h2;exact⟨by omega,h2.2.2.2.2,λj f=>by omega,by omega⟩
theorem qls (l:List UInt8)(a:Nat):l.foldl (λa b=>256*a+b.toNat) a=a*256 ^ l.length+Za l:=by
 induction l generalizing a with
 |nil=>simp[Za]
 |cons b l ih=>
  unfold Za;rw[List.foldl_cons,List.foldl_cons,ih,ih (256*0+b.toNat),List.length_cons,Nat.pow_succ,Nat.add_mul,Nat.add_mul];have e:256*a*256 ^ l.length=a*(256 ^ l.length*256):=by rw[Nat.mul_comm 256 a,Nat.mul_assoc,Nat.mul_comm 256]
  omega
theorem q7s (b:UInt8)(l:List UInt8):Za (b::l)=b.toNat*256 ^ l.length+Za l:=by
 have h:=qls l (256*0+b.toNat);have e:(256*0+b.toNat)*256 ^ l.length=b.toNat*256 ^ l.length:=by rw[Nat.mul_zero,Nat.zero_add]
 rw[e] at h;exact h
theorem qsx (u k:Nat):(low (u:Int) k).toNat=u / 256 ^ k % 256:=by
 unfold low;have e:((u:Int) / 2 ^ (8*k) % 256)=((u / 256 ^ k % 256:Nat):Int):=by
  rw[show (256:Nat) ^ k=2 ^ (8*k) by rw[Nat.pow_mul],Int.natCast_emod,Int.natCast_ediv,Int.natCast_pow];rfl
 rw[e,Int.toNat_natCast,UInt8.toNat_ofNat'];omega
theorem qa2 (u k:Nat):Za (Zc (u:Int) k)=u % 256 ^ k:=by
 induction k with
 |zero=>simp[Zc,Za,Nat.mod_one]
 |succ k ih=>
  rw[Zc,q7s,Ya,ih,qsx,Nat.mod_pow_succ,Nat.mul_comm];omega
theorem qjq:∀{a b:List UInt8},a.length=b.length->Za a=Za b->a=b
 |[],[],_,_=>rfl
 |[],_::_,h,_=>by simp at h
 |_::_,[],h,_=>by simp at h
 |x::a,y::b,h,e=>by
  have f:a.length=b.length:=by simpa using h
  rw[q7s,q7s,f] at e;have h1:=q80 a;have h2:=q80 b;rw[f] at h1;have u:0<256 ^ b.length:=Nat.pow_pos (by omega);have D:(x.toNat*256 ^ b.length+Za a) / 256 ^ b.length=x.toNat:=by rw[Nat.mul_comm,Nat.mul_add_div u,Nat.div_eq_of_lt h1];omega
  have E:(y.toNat*256 ^ b.length+Za b) / 256 ^ b.length=y.toNat:=by rw[Nat.mul_comm,Nat.mul_add_div u,Nat.div_eq_of_lt h2];omega
  have p:x.toNat=y.toNat:=by rw[<-D,<-E,e]
  have G:=UInt8.toNat_inj.1 p;subst G;have F:Za a=Za b:=by omega
  rw[qjq f F]
def gN (l:List UInt8)(p m:Nat):Nat:=Za ((l.drop p).take m)
theorem Qbl (s:ByteArray)(w:World):(convert 9 48 (.string s)).run Tryz.prog w=.ok (.slice (some ⟨w.1.size,0,none⟩) s.size (grownCap w s.size 0 5)) (Lib.bytesWorld w 5 s):=
 Lib.run_convert_string_bytes w 9 48 5 s Tryz.underlying9 Tryz.underlying48 Tryz.underlying5
def ttY (l:List UInt8):Bool:=decide (1<=l.length/\1+Za (l.take 1)<=l.length)
def Lc (l:List UInt8):List UInt8:=if ttY l=true then bodyT l 1 else []
def Nv (l:List UInt8):List UInt8:=if ttY l=true then Uy l 1 else []
def Il (l:List UInt8):Int:=if ttY l=true then 0 else 2
theorem qyc (l:List UInt8):(Lc l).length<=l.length:=by
 unfold Lc;split
 ·exact qld l 1
 ·simp
theorem qvs (l:List UInt8):(Wj l).length<=l.length:=by
 unfold Wj;split<;>simp
def t2Y (l:List UInt8):Bool:=decide (2<=l.length)
def Px (l:List UInt8):Int:=if t2Y l=true then (Za (l.take 2):Int) else 0
def Nu (l:List UInt8):List UInt8:=if t2Y l=true then l.drop 2 else []
def Ij (l:List UInt8):Int:=if t2Y l=true then 0 else 2
def Xa (N:Nd)(r:List UInt8):Option (Nd × List UInt8):=
 if U6 r=0 then
  if N.lvl=0 then if Il (Wj r)=0 then some (⟨N.lvl,N.items++[⟨Gw r,Lc (Wj r)⟩],N.kids⟩,Nv (Wj r)) else none
  else if Ij (Wj r)=0 then some (⟨N.lvl,N.items,N.kids++[⟨Gw r,Px (Wj r)⟩]⟩,Nu (Wj r)) else none
 else none
def Ju (l:Int)(body:List UInt8):Nat->Option (Nd × List UInt8)
 |0=>some (⟨l,[],[]⟩,body)
 |j+1=>match Ju l body j with
  |some (N,r)=>Xa N r
  |none=>none
theorem q4q (l:Int)(body:List UInt8)(j:Nat)(N:Nd)(r:List UInt8)(h:Ju l body j=some (N,r)):Ju l body (j+1)=Xa N r:=by
 show (match Ju l body j with|some (N,r)=>Xa N r|none=>none)=_;rw[h]
theorem qa3 (l:Int)(body:List UInt8)(j k:Nat)(h:Ju l body j=none)(f:j<=k):Ju l body k=none:=by
 induction k with
 |zero=>
  obtain rfl:j=0:=by omega
  exact h
 |succ k ih=>
  rcases (by omega:j<=k\/j=k+1) with h1|rfl
  ·show (match Ju l body k with|some (N,r)=>Xa N r|none=>none)=_;rw[ih h1]
  ·exact h
def qdk (b:List UInt8):Nat:=min (Yf b).count.toNat 20
def qdl (b:List UInt8)(addr gen:Int):Option (Nd × List UInt8)->Option Nd
 |some (N,_)=>if Zm N addr gen=0/\Jr N addr gen=b then some N else none
 |none=>none
def Ih (b:List UInt8)(addr:Int):Option Nd:=if Nh b=0 then qdl b addr (Yf b).gen (Ju (Yf b).level (Ul b) (qdk b)) else none
theorem qvt {b:List UInt8}(h:Nh b=0):(Yf b).ok=true:=by
 cases f:okB b
 ·obtain⟨_,_,p⟩:=qjb f;rw[p] at h;omega
 ·obtain⟨h1,_,_⟩:=q7i f;rw[h1];exact (of_decide_eq_true f).2.2.1
def O0 (x:Qg):Bool:=decide (x.v.length<=28)
def O9 (x:Qm):Bool:=decide (1<=x.a/\x.a<=2047)
def okI (xs:List Qg)(j:Nat):Bool:=Ws (xs.map (·.k)) j&&O0 (Qz xs j)
def okK (xs:List Qm)(j:Nat):Bool:=Ws (xs.map (·.k)) j&&O9 (Qh xs j)
def Di (xs:List Qg)(lo f:Int):Bool:=decide (lo<=(xs.length:Int)/\(xs.length:Int)<=f)&&(List.range xs.length).all (okI xs)
def Dj (xs:List Qm)(lo f:Int):Bool:=decide (lo<=(xs.length:Int)/\(xs.length:Int)<=f)&&(List.range xs.length).all (okK xs)
theorem qvu {n:Nat}{f:Nat->Bool}{j:Nat}(p:j<n)(h:f j=false):(List.range n).all f=false:=by
 rw[List.all_eq_false];exact⟨j,List.mem_range.2 p,by rw[h];simp⟩
theorem qo8 {n:Nat}{f:Nat->Bool}(h:∀j,j<n->f j=true):(List.range n).all f=true:=by
 rw[List.all_eq_true];exact λj p=>h j (List.mem_range.1 p)
theorem qdm (xs:List Qg)(j:Nat):keyAt (xs.map (·.k)) j=(Qz xs j).k:=by
 unfold keyAt Qz;rw[List.getD_eq_getElem?_getD,List.getD_eq_getElem?_getD,List.getElem?_map]
 cases xs[j]?<;>rfl
theorem qa4 (xs:List Qm)(j:Nat):keyAt (xs.map (·.k)) j=(Qh xs j).k:=by
 unfold keyAt Qh;rw[List.getD_eq_getElem?_getD,List.getD_eq_getElem?_getD,List.getElem?_map]
 cases xs[j]?<;>rfl
theorem qo9 (xs:List Qg)(A:Option Addr)(n c:Nat)(lo hi:Int)(w:World)(hI:Jd w A n c xs)(hn:n<=100000) :
  Calls Tryz.prog 214 #[.slice A n c,.int .i64 lo,.int .i64 hi,.func (.func 170) #[] #[],.func (.func 215) #[] #[]] w λe w'=>e=.returned (.bool (Di xs lo hi))/\Below w.1.size w w':=by
 have R:=Lib.hid hI.len;obtain⟨b3,b1⟩:=hI.bounds;unfold maxLen at b1;go_enter Tryz.func214,Tryz.ntmps214
 go_wp2_with fail
 refine (q30 (n:Int) lo hi _ rfl _).mono ?_
 cases hr:decide (lo<=(n:Int)/\(n:Int)<=hi)
 ·rintro e w1 ⟨rfl,rfl⟩;go_wp2;go_ret;exact⟨by unfold Di;rw[R.out,hr];rfl,Below.refl _ _⟩
 ·rintro e w1 ⟨rfl,rfl⟩;have T:=Lib.hid (show Di xs lo hi=(List.range n).all (okI xs) by unfold Di;rw[R.out,hr];rfl);clear hr;go_wp2_with fail
  go_loopw [21] (λi wr=>∃j:Nat,j<=n/\i=.int .i64 (j:Int)/\(∀q,q<j->okI xs q=true)/\Below w.1.size w wr) (λi _=>n-(intOf i).toNat)
  case atStart=>exact⟨0,Nat.zero_le _,rfl,λq hq=>by omega,Below.refl _ _⟩
  case round=>
   obtain⟨j,hj,rfl,U,hB⟩:=hrel;by_cases a6:j<n
   ·have a5:=hI.below hB;obtain⟨g,o,H,G,I,hA,hg,c0,c1,c2,c3,a7⟩:=a5.cell a6;subst hA;obtain⟨x,hx⟩:∃x,Qz xs j=x:=⟨_,rfl⟩;have M:=Lib.hid (show okI xs j=((x.k.may&&(decide (j=0)||(Qz xs (j-1)).k.less x.k))&&O0 x) by unfold okI Ws;rw[qdm,qdm,hx]);rw[hx] at c0 c1 c2 a7;have a8:=a7.len;obtain⟨f,F⟩:∃f,decide (G<=28)=f:=⟨_,rfl⟩;have J:=Lib.hid (show O0 x=f by unfold O0;rw[a8,F]);clear a8;obtain⟨k,hk⟩:∃k,x.k=k:=⟨_,rfl⟩;rw[hk] at c0 c1 c2;obtain⟨r,hm⟩:∃r,k.may=r:=⟨_,rfl⟩;have Hk:=Lib.hid hk;clear hk hx;go_wp2_with fail
    have Y:Below wr.1.size wr (wr.alloc (.cells #[.int .i64 k.obj,.int .i64 k.kind,.int .i64 k.off,.slice H G I] 50)):=Qn;have x0:(wr.alloc (.cells #[.int .i64 k.obj,.int .i64 k.kind,.int .i64 k.off,.slice H G I] 50)).1[wr.1.size]?=some (.cells #[.int .i64 k.obj,.int .i64 k.kind,.int .i64 k.off,.slice H G I] 50 (0,0)):=heap_alloc_new wr _;have zx:wr.1.size<(wr.alloc (.cells #[.int .i64 k.obj,.int .i64 k.kind,.int .i64 k.off,.slice H G I] 50)).1.size:=by simp
    generalize wr.alloc (.cells #[.int .i64 k.obj,.int .i64 k.kind,.int .i64 k.off,.slice H G I] 50)=O at Y x0 zx ⊢;have q0:∀u:Grown O,u.to.cell? ⟨wr.1.size,0,none⟩=some (.int .i64 k.obj):=Grown.cell (by rw[cell_of_row _ _ _ _ _ _ x0];rfl) zx;have q1:∀u:Grown O,u.to.cell? ⟨wr.1.size,1,none⟩=some (.int .i64 k.kind):=Grown.cell (by rw[cell_of_row _ _ _ _ _ _ x0];rfl) zx;have q2:∀u:Grown O,u.to.cell? ⟨wr.1.size,2,none⟩=some (.int .i64 k.off):=Grown.cell (by rw[cell_of_row _ _ _ _ _ _ x0];rfl) zx;have q3:∀u:Grown O,u.to.cell? ⟨wr.1.size,3,none⟩=some (.slice H G I):=Grown.cell (by rw[cell_of_row _ _ _ _ _ _ x0];rfl) zx;have E:=hB.trans (Y.mono hB.size);clear c0 c1 c2 c3 x0;have fin:∀b,okI xs j=b->b=false->Di xs lo hi=false:=λb h1 h2=>by rw[T.out];exact qvu a6 (h1.trans h2)
    have X:=Lib.hid fin;clear fin
    cases r
    ·refine Ua (by kernel_rfl) (by kernel_rfl) ?_;repeat (go_big_quiet_step (first
      |(go_at_call 170;exact Calls.grown (q2h k H G I _))
      |(go_at_call 107;exact Calls.grown (q2p k false hm _))
      |fail))
     refine wpQuiet_nil ?_;rintro _ ⟨u,rfl⟩;have D:=E.trans (u.ok.mono E.size);go_wp2;go_ret;exact⟨by rw[X.out _ M.out (by rw[Hk.out,hm];rfl)];rfl,D⟩
    ·cases f
     ·refine Ua (by kernel_rfl) (by kernel_rfl) ?_;repeat (go_big_quiet_step (first
       |(go_at_call 170;exact Calls.grown (q2h k H G I _))
       |(go_at_call 215;exact Calls.grown (qbf k H G I _ F _))
       |(go_at_call 107;exact Calls.grown (q2p k true hm _))
       |fail))
      refine wpQuiet_nil ?_;rintro _ ⟨u,rfl⟩;have D:=E.trans (u.ok.mono E.size);go_wp2;go_ret;exact⟨by rw[X.out _ M.out (by rw[J.out,Bool.and_false])];rfl,D⟩
     ·rcases j with _|q
      ·refine Ua (by kernel_rfl) (by kernel_rfl) ?_;repeat (go_big_quiet_step (first
        |(go_at_call 170;exact Calls.grown (q2h k H G I _))
        |(go_at_call 215;exact Calls.grown (qbf k H G I _ F _))
        |(go_at_call 107;exact Calls.grown (q2p k true hm _))
        |fail))
       refine wpQuiet_nil ?_;rintro _ ⟨u,rfl⟩;have D:=E.trans (u.ok.mono E.size);go_wp2;refine⟨⟨1,by omega,rfl,λq hq=>?_,D⟩,by simp[intOf];omega⟩;obtain rfl:q=0:=by omega
       rw[M.out,Hk.out,hm,J.out];rfl
      ·obtain⟨g',o',B2,m2,d2,Z,_,a0,a1,a2,a3,_⟩:=a5.cell (show q<n by omega);injection Z with Z;injection Z with e1 e2;subst e1 e2;obtain⟨y,hy⟩:∃y,Qz xs q=y:=⟨_,rfl⟩;rw[hy] at a0 a1 a2;obtain⟨l,a4⟩:∃l,y.k=l:=⟨_,rfl⟩;rw[a4] at a0 a1 a2;obtain⟨s,hl⟩:∃s,l.less k=s:=⟨_,rfl⟩;have W:=Lib.hid (show okI xs (q+1)=s by rw[M.out,Hk.out,hm,J.out,show q+1-1=q by omega,hy,a4,hl];simp);clear hy a4;have K:g<O.1.size:=by have:=Y.size;omega
       have p0:∀u:Grown O,u.to.cell? ⟨g,o+q*4,none⟩=some (.int .i64 l.obj):=Grown.cell ((Y.cell (p:=⟨g,_,none⟩) hg).trans a0) K;have p1:∀u:Grown O,u.to.cell? ⟨g,o+q*4+1,none⟩=some (.int .i64 l.kind):=Grown.cell ((Y.cell (p:=⟨g,_,none⟩) hg).trans a1) K;have p2:∀u:Grown O,u.to.cell? ⟨g,o+q*4+2,none⟩=some (.int .i64 l.off):=Grown.cell ((Y.cell (p:=⟨g,_,none⟩) hg).trans a2) K;have p3:∀u:Grown O,u.to.cell? ⟨g,o+q*4+3,none⟩=some (.slice B2 m2 d2):=Grown.cell ((Y.cell (p:=⟨g,_,none⟩) hg).trans a3) K;clear a0 a1 a2 a3;have b4:(0:Int)<=(q:Int):=by omega
       have b5:(q:Int)<(n:Int):=by omega
       have b2:(0:Int)<(q:Int)+1:=by omega
       have a9:IntKind.i64.wrap (q:Int)=(q:Int):=IntWalk.i64_in _ (by omega);have b7:IntKind.i64.wrap ((q:Int)+1-1)=(q:Int):=by rw[Int.add_sub_cancel];exact a9
       have b6:IntKind.i64.wrap (((q+1:Nat):Int)-1)=(q:Int):=by rw[show ((q+1:Nat):Int)-1=(q:Int) by omega];exact a9
       refine Ua (by kernel_rfl) (by kernel_rfl) ?_;repeat (go_big_quiet_step (first
        |(go_at_call 170;exact Calls.grown (q2h k H G I _))
        |(go_at_call 170;exact Calls.grown (q2h l B2 m2 d2 _))
        |(go_at_call 215;exact Calls.grown (qbf k H G I _ F _))
        |(go_at_call 107;exact Calls.grown (q2p k true hm _))
        |(go_at_call 55;exact Calls.grown (q7l l k s hl _))
        |fail))
       refine wpQuiet_nil ?_;rintro _ ⟨u,rfl⟩;have D:=E.trans (u.ok.mono E.size)
       cases s
       ·go_wp2;go_ret;exact⟨by rw[X.out _ W.out rfl];rfl,D⟩
       ·go_wp2;refine⟨⟨q+2,by omega,by go_num,λp hp=>?_,D⟩,by simp[intOf];omega⟩;rcases (by omega:p<q+1\/p=q+1) with h1|rfl
        ·exact U p h1
        ·exact W.out
   ·obtain rfl:j=n:=by omega
    have b0:=Lib.hid (show Di xs lo hi=true by rw[T.out];exact qo8 U);go_wp2;go_ret;exact⟨by rw[b0.out];rfl,hB⟩
theorem qoa (xs:List Qm)(A:Option Addr)(n c:Nat)(lo X:Int)(w:World)(hI:Zp w A n c xs)(hn:n<=100000) :
  Calls Tryz.prog 217 #[.slice A n c,.int .i64 lo,.int .i64 X,.func (.func 173) #[] #[],.func (.func 218) #[] #[]] w λe w'=>e=.returned (.bool (Dj xs lo X))/\Below w.1.size w w':=by
 have K:=Lib.hid hI.len;obtain⟨b1,a9⟩:=hI.bounds;unfold maxLen at a9;go_enter Tryz.func217,Tryz.ntmps217
 go_wp2_with fail
 refine (q30 (n:Int) lo X _ rfl _).mono ?_
 cases hr:decide (lo<=(n:Int)/\(n:Int)<=X)
 ·rintro e w1 ⟨rfl,rfl⟩;go_wp2;go_ret;exact⟨by unfold Dj;rw[K.out,hr];rfl,Below.refl _ _⟩
 ·rintro e w1 ⟨rfl,rfl⟩;have M:=Lib.hid (show Dj xs lo X=(List.range n).all (okK xs) by unfold Dj;rw[K.out,hr];rfl);clear hr;go_wp2_with fail
  go_loopw [21] (λi wr=>∃j:Nat,j<=n/\i=.int .i64 (j:Int)/\(∀q,q<j->okK xs q=true)/\Below w.1.size w wr) (λi _=>n-(intOf i).toNat)
  case atStart=>exact⟨0,Nat.zero_le _,rfl,λq hq=>by omega,Below.refl _ _⟩
  case round=>
   obtain⟨j,hj,rfl,O,hB⟩:=hrel;by_cases a5:j<n
   ·have a4:=hI.below hB;obtain⟨g,o,hA,hg,c0,c1,c2,c3⟩:=a4.cell a5;subst hA;obtain⟨x,hx⟩:∃x,Qh xs j=x:=⟨_,rfl⟩;have I:=Lib.hid (show okK xs j=((x.k.may&&(decide (j=0)||(Qh xs (j-1)).k.less x.k))&&O9 x) by unfold okK Ws;rw[qa4,qa4,hx]);rw[hx] at c0 c1 c2 c3;obtain⟨v,hv⟩:∃v,x.a=v:=⟨_,rfl⟩;rw[hv] at c3;obtain⟨f,F⟩:∃f,decide (1<=v/\v<=2047)=f:=⟨_,rfl⟩;have G:=Lib.hid (show O9 x=f by unfold O9;rw[hv,F]);clear hv;obtain⟨k,hk⟩:∃k,x.k=k:=⟨_,rfl⟩;rw[hk] at c0 c1 c2;obtain⟨r,hm⟩:∃r,k.may=r:=⟨_,rfl⟩;have Hk:=Lib.hid hk;clear hk hx;go_wp2_with fail
    have U:Below wr.1.size wr (wr.alloc (.cells #[.int .i64 k.obj,.int .i64 k.kind,.int .i64 k.off,.int .i64 v] 148)):=Qn;have Z:(wr.alloc (.cells #[.int .i64 k.obj,.int .i64 k.kind,.int .i64 k.off,.int .i64 v] 148)).1[wr.1.size]?=some (.cells #[.int .i64 k.obj,.int .i64 k.kind,.int .i64 k.off,.int .i64 v] 148 (0,0)):=heap_alloc_new wr _;have zx:wr.1.size<(wr.alloc (.cells #[.int .i64 k.obj,.int .i64 k.kind,.int .i64 k.off,.int .i64 v] 148)).1.size:=by simp
    generalize wr.alloc (.cells #[.int .i64 k.obj,.int .i64 k.kind,.int .i64 k.off,.int .i64 v] 148)=J at U Z zx ⊢;have q0:∀u:Grown J,u.to.cell? ⟨wr.1.size,0,none⟩=some (.int .i64 k.obj):=Grown.cell (by rw[cell_of_row _ _ _ _ _ _ Z];rfl) zx;have q1:∀u:Grown J,u.to.cell? ⟨wr.1.size,1,none⟩=some (.int .i64 k.kind):=Grown.cell (by rw[cell_of_row _ _ _ _ _ _ Z];rfl) zx;have q2:∀u:Grown J,u.to.cell? ⟨wr.1.size,2,none⟩=some (.int .i64 k.off):=Grown.cell (by rw[cell_of_row _ _ _ _ _ _ Z];rfl) zx;have q3:∀u:Grown J,u.to.cell? ⟨wr.1.size,3,none⟩=some (.int .i64 v):=Grown.cell (by rw[cell_of_row _ _ _ _ _ _ Z];rfl) zx;have E:=hB.trans (U.mono hB.size);clear c0 c1 c2 c3 Z;have fin:∀b,okK xs j=b->b=false->Dj xs lo X=false:=λb h1 h2=>by rw[M.out];exact qvu a5 (h1.trans h2)
    have T:=Lib.hid fin;clear fin
    cases r
    ·refine Ua (by kernel_rfl) (by kernel_rfl) ?_;repeat (go_big_quiet_step (first
      |(go_at_call 173;exact Calls.grown (q2i k v _))
      |(go_at_call 107;exact Calls.grown (q2p k false hm _))
      |fail))
     refine wpQuiet_nil ?_;rintro _ ⟨u,rfl⟩;have D:=E.trans (u.ok.mono E.size);go_wp2;go_ret;exact⟨by rw[T.out _ I.out (by rw[Hk.out,hm];rfl)];rfl,D⟩
    ·cases f
     ·refine Ua (by kernel_rfl) (by kernel_rfl) ?_;repeat (go_big_quiet_step (first
       |(go_at_call 173;exact Calls.grown (q2i k v _))
       |(go_at_call 218;exact Calls.grown (qbg k v _ F _))
       |(go_at_call 107;exact Calls.grown (q2p k true hm _))
       |fail))
      refine wpQuiet_nil ?_;rintro _ ⟨u,rfl⟩;have D:=E.trans (u.ok.mono E.size);go_wp2;go_ret;exact⟨by rw[T.out _ I.out (by rw[G.out,Bool.and_false])];rfl,D⟩
     ·rcases j with _|q
      ·refine Ua (by kernel_rfl) (by kernel_rfl) ?_;repeat (go_big_quiet_step (first
        |(go_at_call 173;exact Calls.grown (q2i k v _))
        |(go_at_call 218;exact Calls.grown (qbg k v _ F _))
        |(go_at_call 107;exact Calls.grown (q2p k true hm _))
        |fail))
       refine wpQuiet_nil ?_;rintro _ ⟨u,rfl⟩;have D:=E.trans (u.ok.mono E.size);go_wp2;refine⟨⟨1,by omega,rfl,λq hq=>?_,D⟩,by simp[intOf];omega⟩;obtain rfl:q=0:=by omega
       rw[I.out,Hk.out,hm,G.out];rfl
      ·obtain⟨g',o',W,_,a0,a1,a2,a3⟩:=a4.cell (show q<n by omega);injection W with W;injection W with e1 e2;subst e1 e2;obtain⟨y,hy⟩:∃y,Qh xs q=y:=⟨_,rfl⟩;rw[hy] at a0 a1 a2 a3;obtain⟨v2,a6⟩:∃v2,y.a=v2:=⟨_,rfl⟩;rw[a6] at a3;clear a6;obtain⟨l,Y⟩:∃l,y.k=l:=⟨_,rfl⟩;rw[Y] at a0 a1 a2;obtain⟨s,hl⟩:∃s,l.less k=s:=⟨_,rfl⟩;have R:=Lib.hid (show okK xs (q+1)=s by rw[I.out,Hk.out,hm,G.out,show q+1-1=q by omega,hy,Y,hl];simp);clear hy Y;have H:g<J.1.size:=by have:=U.size;omega
       have p0:∀u:Grown J,u.to.cell? ⟨g,o+q*4,none⟩=some (.int .i64 l.obj):=Grown.cell ((U.cell (p:=⟨g,_,none⟩) hg).trans a0) H;have p1:∀u:Grown J,u.to.cell? ⟨g,o+q*4+1,none⟩=some (.int .i64 l.kind):=Grown.cell ((U.cell (p:=⟨g,_,none⟩) hg).trans a1) H;have p2:∀u:Grown J,u.to.cell? ⟨g,o+q*4+2,none⟩=some (.int .i64 l.off):=Grown.cell ((U.cell (p:=⟨g,_,none⟩) hg).trans a2) H;have p3:∀u:Grown J,u.to.cell? ⟨g,o+q*4+3,none⟩=some (.int .i64 v2):=Grown.cell ((U.cell (p:=⟨g,_,none⟩) hg).trans a3) H;clear a0 a1 a2 a3;have b2:(0:Int)<=(q:Int):=by omega
       have b3:(q:Int)<(n:Int):=by omega
       have b0:(0:Int)<(q:Int)+1:=by omega
       have a7:IntKind.i64.wrap (q:Int)=(q:Int):=IntWalk.i64_in _ (by omega);have b5:IntKind.i64.wrap ((q:Int)+1-1)=(q:Int):=by rw[Int.add_sub_cancel];exact a7
       have b4:IntKind.i64.wrap (((q+1:Nat):Int)-1)=(q:Int):=by rw[show ((q+1:Nat):Int)-1=(q:Int) by omega];exact a7
       refine Ua (by kernel_rfl) (by kernel_rfl) ?_;repeat (go_big_quiet_step (first
        |(go_at_call 173;exact Calls.grown (q2i k v _))
        |(go_at_call 173;exact Calls.grown (q2i l v2 _))
        |(go_at_call 218;exact Calls.grown (qbg k v _ F _))
        |(go_at_call 107;exact Calls.grown (q2p k true hm _))
        |(go_at_call 55;exact Calls.grown (q7l l k s hl _))
        |fail))
       refine wpQuiet_nil ?_;rintro _ ⟨u,rfl⟩;have D:=E.trans (u.ok.mono E.size)
       cases s
       ·go_wp2;go_ret;exact⟨by rw[T.out _ R.out rfl];rfl,D⟩
       ·go_wp2;refine⟨⟨q+2,by omega,by go_num,λp hp=>?_,D⟩,by simp[intOf];omega⟩;rcases (by omega:p<q+1\/p=q+1) with h1|rfl
        ·exact O p h1
        ·exact R.out
   ·obtain rfl:j=n:=by omega
    have a8:=Lib.hid (show Dj xs lo X=true by rw[M.out];exact qo8 O);go_wp2;go_ret;exact⟨by rw[a8.out];rfl,hB⟩
section
variable {w w':World}{s n c:Nat}{A:Option Addr}
theorem Js.drop {xs:List (List Value)}(h:Js w s A n c xs){k:Nat}(hk:k<=n):Js w s (if c=k then A else A.map (·.add (k*s))) (n-k) (c-k) (xs.drop k):=by
 have F:=h.len;have D:=h.cap;have hm:=h.max;refine⟨by rw[List.length_drop];omega,by omega,by omega,λj x f=>?_⟩;rw[List.getElem?_drop] at f;have E:=(List.getElem?_eq_some_iff.1 f).1;obtain⟨g,o,rfl,u,p,y⟩:=h.2.2.2 _ x f;rw[if_neg (by omega)];refine⟨g,o+k*s,by rw[Option.map_some,Addr.add_mid],u,p,?_⟩;have e:o+k*s+j*s=o+(k+j)*s:=by rw[Nat.add_mul];omega
 rw[e];exact y
theorem Jd.drop {xs:List Qg}(h:Jd w A n c xs){k:Nat}(hk:k<=n):Jd w (if c=k then A else A.map (·.add (k*4))) (n-k) (c-k) (xs.drop k):=by
 obtain⟨f,h1,h2,y⟩:=h;refine⟨f.drop k,h1.drop hk,by rw[List.length_drop,List.length_drop,h2],λj r x p u=>?_⟩;rw[List.getElem?_drop] at p u;exact y _ r x p u
theorem Jd.sub {xs:List Qg}(h:Jd w A n c xs){i j:Nat}(hi:i<=j)(hj:j<=n):Jd w (if c=i then A else A.map (·.add (i*4))) (j-i) (c-i) ((xs.drop i).take (j-i)):=(h.drop (by omega)).take (by omega)
theorem Zp.drop {xs:List Qm}(h:Zp w A n c xs){k:Nat}(hk:k<=n):Zp w (if c=k then A else A.map (·.add (k*4))) (n-k) (c-k) (xs.drop k):=by
 have:=Js.drop h hk;rw[<-List.map_drop] at this;exact this
theorem Zp.sub {xs:List Qm}(h:Zp w A n c xs){i j:Nat}(hi:i<=j)(hj:j<=n):Zp w (if c=i then A else A.map (·.add (i*4))) (j-i) (c-i) ((xs.drop i).take (j-i)):=(h.drop (by omega)).take (by omega)
end
def Vj (l:Int)(A:Option Addr)(n c:Nat)(B:Option Addr)(m d:Nat):List Value:=[.int .i64 l,.slice A n c,.slice B m d]
theorem qsy (l:Int)(A:Option Addr)(n c:Nat)(B:Option Addr)(m d:Nat):∀y∈[Vj l A n c B m d],∀u∈y,u.oneCell'=true:=by
 intro y p u f;obtain rfl:y=Vj l A n c B m d:=by simpa using p
 simp[Vj] at f;rcases f with rfl|rfl|rfl<;>rfl
def Qb5 (Q:World->Prop)(r:List Value)(N:Nd):Prop:=∃A n c B m d,r=Vj N.lvl A n c B m d/\n<=1000/\m<=1000/\∀w,Q w->Jd w A n c N.items/\Zp w B m d N.kids
def Qb6 (Q:World->Prop)(w:World)(base:Nat)(A:Option Addr)(n c:Nat)(Ns:List Nd):Prop:=
 ∃f,Qo w base 77 3 A n c f/\f.length=Ns.length/\∀(j:Nat) r N,f[j]?=some r->Ns[j]?=some N->Qb5 Q r N
def Ndl (Q:World->Prop)(w:World)(A:Option Addr)(n c:Nat)(Ns:List Nd):Prop:=
 ∃f,Js w 3 A n c f/\f.length=Ns.length/\∀(j:Nat) r N,f[j]?=some r->Ns[j]?=some N->Qb5 Q r N
section
variable {Q:World->Prop}{w w':World}{base n c:Nat}{A:Option Addr}{Ns:List Nd}
theorem Ndl.len (h:Ndl Q w A n c Ns):Ns.length=n:=by
 obtain⟨f,h1,h2,_⟩:=h;rw[<-h2];exact h1.len
def Ae (Ns:List Nd)(j:Nat):Nd:=Ns.getD j ⟨0,[],[]⟩
theorem q6r {j:Nat}(h:j<Ns.length):Ns[j]?=some (Ae Ns j):=by simp[Ae,List.getD,h]
end
theorem q13 {R R':Int->Nd × Int}(h:∀a,(R a).2=0->R' a=R a):∀{l:Nat} {a:Int} {its:List Qg},Qi R l a its->Qi R' l a its
 |0,a,its,hh=>⟨by rw[h a (by rw[hh.1])];exact hh.1,hh.2⟩
 |l+1,a,its,hh=>by
  obtain⟨kids,parts,h1,h2,u,y,f⟩:=hh;exact⟨kids,parts,by rw[h a (by rw[h1])];exact h1,h2,u,y,λj p=>⟨q13 h (f j p).1,(f j p).2⟩⟩
abbrev Ja:=Int × List Qg
def Qp (x:Ja):Qm:=⟨(Qz x.2 0).k,x.1⟩
def rowOf (G:List Ja):List Qg:=(G.map (·.2)).flatten
theorem qdn {G:List Ja}{j:Nat}(f:j<G.length):Qh (G.map Qp) j=Qp G[j]:=by
 unfold Qh;rw[List.getD_eq_getElem?_getD,List.getElem?_map,List.getElem?_eq_getElem f];rfl
theorem q5f {G:List Ja}{j:Nat}(f:j<G.length):(G.map (·.2)).getD j []=(G[j]).2:=by
 rw[List.getD_eq_getElem?_getD,List.getElem?_map,List.getElem?_eq_getElem f];rfl
theorem qhk {R:Int->Nd × Int}{l:Nat}{b:Int}{G:List Ja}(h:∀x∈G,Qi R l x.1 x.2)(p:G≠[])(u:R b=(⟨((l+1:Nat):Int),[],G.map Qp⟩,0)):Qi R (l+1) b (rowOf G):=by
 refine⟨G.map Qp,G.map (·.2),u,?_,by rw[List.length_map,List.length_map],rfl,λj f=>?_⟩
 ·intro e;exact p (List.map_eq_nil_iff.1 e)
 ·rw[List.length_map] at f;rw[qdn f,q5f f];have h1:=h _ (List.getElem_mem f);obtain⟨x,r,e⟩:=q60 h1;exact⟨h1,x,r,e,by unfold Qp Qz;rw[e];rfl⟩
theorem qjr {ks:List Kd}(hm:∀k∈ks,k.may=true)(h:ks.Pairwise λa b=>a.less b=true):rises ks=true:=by
 refine qse λj f=>?_
 have e:∀i,(p:i<ks.length)->keyAt ks i=ks[i]:=λi p=>by unfold keyAt;rw[List.getD_eq_getElem?_getD,List.getElem?_eq_getElem p];rfl
 unfold Ws;rw[e j f,hm _ (List.getElem_mem f),Bool.true_and];by_cases h0:j=0
 ·subst h0;rfl
 ·rw[e (j-1) (by omega),List.pairwise_iff_getElem.1 h (j-1) j (by omega) f (by omega),Bool.or_true]
theorem qsz {p:List Qg}(h1:1<=p.length)(D:p.length<=6)(E:Qk p)(y:∀x∈p,x.k.may=true/\x.v.length<=28):(⟨0,p,[]⟩:Nd).may=true:=by
 unfold Nd.may;rw[if_pos rfl,Bool.and_eq_true,Bool.and_eq_true];refine⟨?_,?_,decide_eq_true ⟨rfl,h1,D⟩⟩
 ·unfold q68;rw[List.all_eq_true];exact λx f=>decide_eq_true (y x f).2
 ·rw[q1v];refine qjr (λk f=>?_) (List.Pairwise.map _ (λ_ _ h=>h) E);obtain⟨x,u,rfl⟩:=List.mem_map.1 f;exact (y x u).1
theorem qob {l:Nat}{G:List Ja}(W:l<7)(h2:2<=G.length)(E:G.length<=12)(T:Qk (rowOf G))(R:∀x∈rowOf G,x.k.may=true)(O:∀x∈G,1<=x.1/\x.1<2048)(I:∀x∈G,x.2≠[]):(⟨((l+1:Nat):Int),[],G.map Qp⟩:Nd).may=true:=by
 unfold Nd.may;have h0:¬((l+1:Nat):Int)=0:=by omega
 dsimp only;rw[if_neg h0,Bool.and_eq_true,Bool.and_eq_true];refine⟨?_,?_,decide_eq_true ⟨by omega,by omega,rfl,by rw[List.length_map];exact h2,by rw[List.length_map];exact E⟩⟩
 ·unfold Gv;rw[List.all_eq_true];intro x f;obtain⟨y,U,rfl⟩:=List.mem_map.1 f;exact decide_eq_true (O y U)
 ·rw[q5c,List.map_map];have first:∀x∈G,∃y r,x.2=y::r/\(Qp x).k=y.k:=λx f=>by
   match e:x.2,I x f with
   |y::r,_=>exact⟨y,r,rfl,by unfold Qp Qz;rw[e];rfl⟩
  refine qjr (λk f=>?_) ?_
  ·obtain⟨x,p,rfl⟩:=List.mem_map.1 f;obtain⟨y,r,u,D⟩:=first x p
   show (Qp x).k.may=true;rw[D];refine R y ?_;unfold rowOf;rw[List.mem_flatten];exact⟨x.2,List.mem_map_of_mem p,by rw[u];exact List.mem_cons_self ..⟩
  ·rw[List.pairwise_map,List.pairwise_iff_getElem];intro i j J H F;obtain⟨y,r,u,D⟩:=first _ (List.getElem_mem J)
   obtain⟨z,s,K,M⟩:=first _ (List.getElem_mem H)
   show (Qp G[i]).k.less (Qp G[j]).k=true;rw[D,M];refine q5y T F (by rw[List.length_map];exact H) (x:=y) (y:=z) ?_ ?_
   ·rw[q5f J,u];exact List.mem_cons_self ..
   ·rw[q5f H,K];exact List.mem_cons_self ..
section
variable {w w':World}{b:Nat}{l:Int}{A B:Option Addr}{n c m d:Nat}
theorem NB.keep (H:NB w b l A n c B m d)(h:w'.1[b]?=w.1[b]?):NB w' b l A n c B m d:=by
 obtain⟨t,H⟩:=H;exact⟨t,h.trans H⟩
theorem NB.fz (H:NB w b l A n c B m d)(i:Nat):w.frozen? ⟨b,i,none⟩=false:=by
 obtain⟨t,H⟩:=H;unfold World.frozen?;rw[H];simp
theorem NB.set1 (H:NB w b l A n c B m d)(A':Option Addr)(n' c':Nat):NB (w.setCell ⟨b,1,none⟩ (.slice A' n' c')) b l A' n' c' B m d:=by
 obtain⟨t,H⟩:=H;exact⟨t,Dz _ H⟩
theorem NB.set2 (H:NB w b l A n c B m d)(A':Option Addr)(n' c':Nat):NB (w.setCell ⟨b,2,none⟩ (.slice A' n' c')) b l A n c A' n' c':=by
 obtain⟨t,H⟩:=H;exact⟨t,Dz _ H⟩
theorem NB.there (H:NB w b l A n c B m d):w.there b 0 3:=λj f=>by
 obtain⟨t,H⟩:=H;refine⟨?_,by unfold World.frozen?;rw[H];simp⟩;rw[cell_of_row _ _ _ _ _ _ H,Nat.zero_add,Array.getElem?_eq_getElem (by simpa using f)];rfl
theorem NB.stored (H:NB w b l A n c B m d)(l2:Int)(A2:Option Addr)(n2 c2:Nat)(B2:Option Addr)(m2 d2:Nat):NB (w.setCells b 0 [.int .i64 l2,.slice A2 n2 c2,.slice B2 m2 d2]) b l2 A2 n2 c2 B2 m2 d2:=by
 obtain⟨t,H⟩:=H;exact⟨t,Dz _ (Dz _ (Dz _ H))⟩
end
theorem Ub {ops:Array Oper}{f:List Oper}{o:Oper}{a:Act}{w:World}{Q:Exit->Act->World->Prop}(K:o.guard=none)(x y:Operand)(I:o.op=Op.store 77 x y)
  (b:Nat) (M:a.eval x=.pointer (some ⟨b,0,none⟩)) (E:Int) (p:Option Addr) (G c2:Nat) (u:Option Addr) (F D:Nat) (O:a.eval y=.agg #[.int .i64 E,.slice p G c2,.slice u F D]) {l:Int} {A B:Option Addr} {n c m d:Nat} (H:NB w b l A n c B m d)
  (J:∀w',NB w' b E p G c2 u F D->Turn (λg=>g=b) w w'->wpList Tryz.prog ops Q f (a.put o.dst undef) w'):wpList Tryz.prog ops Q (o::f) a w:=
 wpList_store_mid K _ x y I b 0 #[.int .i64 E,.slice p G c2,.slice u F D] M O H.there (by kernel_rfl) (by simp[Value.oneCell'])
  (J _ (H.stored E p G c2 u F D) (Um (S:=λg=>g=b) rfl _ 0 w))
def Fv (a l:Int)(A:Option Addr)(n c:Nat)(B:Option Addr)(m d:Nat):List Value:=[.int .i64 a,.int .i64 l,.slice A n c,.slice B m d]
def Ld (Q:World->Prop)(r:List Value)(x:Int × Nd):Prop:=∃A n c B m d,r=Fv x.1 x.2.lvl A n c B m d/\n<=1000/\m<=1000/\∀w,Q w->Jd w A n c x.2.items/\Zp w B m d x.2.kids
def Xt (Q:World->Prop)(w:World)(base:Nat)(A:Option Addr)(n c:Nat)(Ns:List (Int × Nd)):Prop:=
 ∃f,Qo w base 218 4 A n c f/\f.length=Ns.length/\∀(j:Nat) r x,f[j]?=some r->Ns[j]?=some x->Ld Q r x
def Nw (Q:World->Prop)(w:World)(A:Option Addr)(n c:Nat)(Ns:List (Int × Nd)):Prop:=
 ∃f,Js w 4 A n c f/\f.length=Ns.length/\∀(j:Nat) r x,f[j]?=some r->Ns[j]?=some x->Ld Q r x
section
variable {Q Q':World->Prop}{w w':World}{base n c:Nat}{A:Option Addr}{Ns:List (Int × Nd)}
theorem Ld.mono {r:List Value}{x:Int × Nd}(h:Ld Q r x)(hq:∀w,Q' w->Q w):Ld Q' r x:=by
 obtain⟨f,H,c1,p,G,u,e,D,E,F⟩:=h;exact⟨f,H,c1,p,G,u,e,D,E,λw y=>F w (hq w y)⟩
theorem Xt.mono (h:Xt Q w base A n c Ns)(hq:∀w,Q' w->Q w):Xt Q' w base A n c Ns:=by
 obtain⟨f,h1,h2,p⟩:=h;exact⟨f,h1,h2,λj r x u y=>(p j r x u y).mono hq⟩
theorem Nw.mono (h:Nw Q w A n c Ns)(hq:∀w,Q' w->Q w):Nw Q' w A n c Ns:=by
 obtain⟨f,h1,h2,p⟩:=h;exact⟨f,h1,h2,λj r x u y=>(p j r x u y).mono hq⟩
theorem Nw.len (h:Nw Q w A n c Ns):Ns.length=n:=by
 obtain⟨f,h1,h2,_⟩:=h;rw[<-h2];exact h1.len
end
