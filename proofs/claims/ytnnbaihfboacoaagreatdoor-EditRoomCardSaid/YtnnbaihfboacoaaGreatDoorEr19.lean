/- The reference's Kids: the blocks that a node names -/
import Derived.Test.YtnnbaihfboacoaaGreatDoorEr10
import Derived.Test.YtnnbaihfboacoaaGreatDoorEr16
namespace Go.Proofs.YtnnbaihfboacoaaGreatDoor
open Go Go.RowKit Go.Proofs
set_option maxHeartbeats 8000000
set_option maxRecDepth 100000
section
variable {P:Program}{t e:TypeId}{s b:Nat}{z:Value}(w:World)
end
theorem Qbu:Em Tryz.prog 36 3 1 8 (.int .i64 0):=⟨Tryz.underlying36,by kernel_rfl,rfl,by omega⟩
def iv (z:Int):List Value:=[.int .i64 z]
def Rt (w:World)(A:Option Addr)(n c:Nat)(zs:List Int):Prop:=Jf w 1 A n c (zs.map iv)
theorem qjf (w:World)(x:Int):Jf (w.alloc (.cells #[.int .i64 x] 3)) 1 (some ⟨w.1.size,0,none⟩) 1 1 [iv x]:=(q1q w 3 1 (iv x) _ rfl rfl).Vs (by omega)
theorem qv2 (x:Int):∀y∈[iv x],∀u∈y,u.oneCell'=true:=by
 intro y f u d;obtain rfl:y=iv x:=by simpa using f
 simp[iv] at d;subst d;rfl
def Ko (x:Qc):Option Int:=if x.k.kind=3/\x.v.length=3/\Wh x.v 0=1 then some (256*(Wh x.v 1:Int)+(Wh x.v 2:Int)) else none
def Nd.named (N:Nd):List Int:=N.kids.map (·.a)++N.items.filterMap Ko
def Uk (N:Nd)(j:Nat):List (List Value):=((N.kids.take j).map (·.a)).map iv
def Xx (N:Nd)(j:Nat):List (List Value):=(N.kids.map (·.a)++(N.items.take j).filterMap Ko).map iv
theorem qhm (N:Nd)(j:Nat)(h:j<N.kids.length):Uk N (j+1)=Uk N j++[iv (Qg N.kids j).a]:=by
 unfold Uk;rw[List.take_succ_eq_append_getElem h,List.map_append,List.map_append];have:=Rf h;rw[List.getElem?_eq_getElem h] at this;rw[Option.some.inj this];rfl
theorem qc0 (N:Nd):Uk N N.kids.length=Xx N 0:=by
 unfold Uk Xx;rw[List.take_length];simp
theorem qlj (N:Nd)(j:Nat)(h:j<N.items.length)(x:Int)(d:Ko (Qj N.items j)=some x):Xx N (j+1)=Xx N j++[iv x]:=by
 unfold Xx;have:=q11 h;rw[List.getElem?_eq_getElem h] at this;rw[List.take_succ_eq_append_getElem h,Option.some.inj this,List.filterMap_append,<-List.append_assoc,List.map_append];simp[d]
theorem qo4 (N:Nd)(j:Nat)(h:j<N.items.length)(d:Ko (Qj N.items j)=none):Xx N (j+1)=Xx N j:=by
 unfold Xx;have:=q11 h;rw[List.getElem?_eq_getElem h] at this;rw[List.take_succ_eq_append_getElem h,Option.some.inj this,List.filterMap_append];simp[d]
theorem qc1 (N:Nd):Xx N N.items.length=N.named.map iv:=by
 unfold Xx Nd.named;rw[List.take_length]
theorem qsj (v:List UInt8)(h:v.length=3):(Q8 ((v.drop 1).take 2):Int)=256*(Wh v 1:Int)+(Wh v 2:Int):=by
 match v,h with
 |[a,b,c],_=>simp[Q8,Wh]
theorem qc2 (x:Qc)(r:Bool)(E:(Ko x).isSome=r)(B:Option Addr)(m d:Nat)(w:World)(O:Sl w B m d x.v) :
  Calls Tryz.prog 189 #[.agg #[.int .i64 x.k.obj,.int .i64 x.k.kind,.int .i64 x.k.off,.slice B m d]] w λe T=>e=.returned (.bool r)/\Below w.1.size w T:=by
 have u:=O.len;have F:∀o,Below w.1.size w (w.alloc o):=λo=>(Below.refl _ _).alloc (Nat.le_refl _) o
 by_cases f:x.k.kind=3
 ·rw[f];by_cases M:m=3
  ·subst M;obtain⟨J,rfl,G,v0⟩:=O.cell (k:=0) (by omega);have I:∀o,(w.alloc o).cell? J=some (.int .u8 (Wh x.v 0:Int)):=λo=>((F o).cell (p:=J) G).trans v0
   by_cases y:Wh x.v 0=1
   ·obtain rfl:r=true:=by rw[<-E];unfold Ko;rw[if_pos ⟨f,u,y⟩];rfl
    rw[y] at I;clear y v0 E u f;go_enter Tryz.func189,Tryz.ntmps189
    go_wp2;go_ret;exact⟨rfl,F _⟩
   ·obtain rfl:r=false:=by rw[<-E];unfold Ko;rw[if_neg (λh=>y h.2.2)];rfl
    obtain⟨D,A⟩:∃D,Wh x.v 0=D:=⟨_,rfl⟩;rw[A] at I y;have Q:((D:Int)==1)=false:=by simp;omega
    have R:decide ((D:Int)=1)=false:=decide_eq_false (by omega);clear A v0 E u f;go_enter Tryz.func189,Tryz.ntmps189
    go_wp2;go_ret;exact⟨rfl,F _⟩
  ·obtain rfl:r=false:=by rw[<-E];unfold Ko;rw[if_neg (λh=>M (by rw[<-u];exact h.2.1))];rfl
   have Q:((m:Int)==3)=false:=by simp;omega
   have R:decide ((m:Int)=3)=false:=decide_eq_false (by omega);clear E u f;go_enter Tryz.func189,Tryz.ntmps189
   go_wp2;go_ret;exact⟨rfl,F _⟩
 ·obtain rfl:r=false:=by rw[<-E];unfold Ko;rw[if_neg (λh=>f h.1)];rfl
  obtain⟨D,A⟩:∃D,x.k.kind=D:=⟨_,rfl⟩;rw[A] at f ⊢;have Q:(D==3)=false:=by simp;omega
  have R:decide (D=3)=false:=decide_eq_false (by omega);clear A E u;go_enter Tryz.func189,Tryz.ntmps189
  go_wp2;go_ret;exact⟨rfl,F _⟩
theorem qc3 (N:Nd)(a1:N.fit)(A:Option Addr)(n c:Nat)(B:Option Addr)(m d:Nat)(w:World)(hI:Zl w A n c N.items)(hK:Zm w B m d N.kids)(hn:n<=1000)(hm:m<=1000) :
  Calls Tryz.prog 165 #[.agg #[.int .i64 N.lvl,.slice A n c,.slice B m d]] w λe w'=>∃F n' G,e=.returned (.slice F n' G)/\Qs w' w.1.size 3 1 F n' G (N.named.map iv)/\Below w.1.size w w':=by
 have a2:=Lib.hid hI.len;have b7:=Lib.hid hK.len;go_enter Tryz.func165,Tryz.ntmps165
 go_wp2_with fail
 have N1:NB (w.alloc (.cells #[.int .i64 N.lvl,.slice A n c,.slice B m d] 75)) w.1.size N.lvl A n c B m d:=NB.new w _ _ _ _ _ _ _ _;have b1:Below w.1.size w (w.alloc (.cells #[.int .i64 N.lvl,.slice A n c,.slice B m d] 75)):=Qm;generalize w.alloc (.cells #[.int .i64 N.lvl,.slice A n c,.slice B m d] 75)=w1 at N1 b1 ⊢;by_cases hl:N.lvl=0
 ·have c7:N.kids.length=0:=by rw[a1.1 hl];rfl
  have b6:=Lib.hid (show Uk N 0=Xx N 0 by have:=qc0 N;rw[c7] at this;exact this);refine (Rh N.lvl true (decide_eq_true hl) A n c B m d w1).mono ?_;rintro e w2 ⟨rfl,I⟩;have N2:=N1.below I N1.lt;have B2:=b1.trans (I.mono b1.size);have q1:=N2.c1;have zN:=N2.lt;have Ic:Qs w2 (w.1.size+1) 3 1 none 0 0 (Xx N 0):=by rw[<-b6.out];exact q10 _ _ _ _
  clear hl c7 N1 b1 I b6;go_wp2_with fail
  clear q1;go_loopw [3,31] (λl i wr=>∃(j q:Nat) (F:Option Addr) (G:Nat),j<=n/\q<=j/\i=.int .i64 (j:Int)/\l=.slice F q G/\Qs wr (w.1.size+1) 3 1 F q G (Xx N j)/\Below w.1.size w wr/\w.1.size<wr.1.size) (λ_ i _=>n-(intOf i).toNat)
  case atStart=>exact⟨0,0,_,_,Nat.zero_le _,Nat.le_refl _,rfl,rfl,Ic,B2,zN⟩
  case round=>
   obtain⟨j,q,F,G,hj,hq,rfl,rfl,own,W,hz⟩:=hrel;by_cases Q:j<n
   ·obtain⟨g,o,B',m',O,hA,hg,c0,c1,c2,c3,b0⟩:=(hI.below W).cell Q;subst hA;have J:=λz h=>Lib.hid (qlj N j (by rw[a2.out];exact Q) z h)
    have X:=λh=>Lib.hid (qo4 N j (by rw[a2.out];exact Q) h)
    obtain⟨x,hx⟩:∃x,Qj N.items j=x:=⟨_,rfl⟩;rw[hx] at c0 c1 c2 b0 J X;clear hx;have bx:Below wr.1.size wr (wr.alloc (.cells #[.int .i64 x.k.obj,.int .i64 x.k.kind,.int .i64 x.k.off,.slice B' m' O] 68)):=Qm;have x0:(wr.alloc (.cells #[.int .i64 x.k.obj,.int .i64 x.k.kind,.int .i64 x.k.off,.slice B' m' O] 68)).1[wr.1.size]?=some (.cells #[.int .i64 x.k.obj,.int .i64 x.k.kind,.int .i64 x.k.off,.slice B' m' O] 68 (0,0)):=heap_alloc_new wr _;have zx:wr.1.size<(wr.alloc (.cells #[.int .i64 x.k.obj,.int .i64 x.k.kind,.int .i64 x.k.off,.slice B' m' O] 68)).1.size:=by simp
    go_wp2_with fail
    generalize wr.alloc (.cells #[.int .i64 x.k.obj,.int .i64 x.k.kind,.int .i64 x.k.off,.slice B' m' O] 68)=wx at bx x0 zx ⊢;have x3:wx.cell? ⟨wr.1.size,3,none⟩=some (.slice B' m' O):=by rw[cell_of_row _ _ _ _ _ _ x0];rfl
    have U:=own.below bx;have M:=b0.below bx;have Z:=W.trans (bx.mono W.size);obtain⟨d5,d6⟩:=(hI.below W).bounds;clear c0 c1 c2 c3 x0 own b0
    cases f:Ko x
    ·have hN:=X f;refine (qc2 x false (by rw[f];rfl) B' m' O wx M).mono ?_;rintro e w3 ⟨rfl,y⟩;have D:=U.below y;rw[<-hN.out] at D;have Y:=Z.trans (y.mono Z.size);have c9:w.1.size<w3.1.size:=by have:=y.size;omega
     clear J X hN f;go_wp2;exact⟨⟨j+1,q,F,G,by omega,by omega,by go_num,rfl,D,Y,c9⟩,by simp[intOf];omega⟩
    ·rename_i z;have hN:=J z f;refine (qc2 x true (by rw[f];rfl) B' m' O wx M).mono ?_;rintro e w3 ⟨rfl,y⟩;have D:=U.below y;have Y:=Z.trans (y.mono Z.size);have c9:w.1.size<w3.1.size:=by have:=y.size;omega
     have y3:=(y.cell (p:=⟨wr.1.size,3,none⟩) zx).trans x3;have u:=M.below y;have c8:=u.len;have d7:=u.cap;have d4:=u.max;unfold maxLen at d4;have b2:x.v.length=3/\(Q8 ((x.v.drop 1).take 2):Int)=z:=by
      unfold Ko at f;split at f
      ·rename_i h;exact⟨h.2.1,by rw[qsj _ h.2.1];exact Option.some.inj f⟩
      ·cases f
     obtain rfl:3=m':=by rw[<-c8];exact b2.1.symm
     have d0:=Lib.hid b2.2;obtain⟨b4,o4,rfl,_,_⟩:=qjt u (by omega);have hd:=u.drop (k:=1) (by omega);rw[if_neg (by omega:¬O=1)] at hd;have b9:Sl w3 (some ⟨b4,o4+1,none⟩) 2 (O-1) (x.v.drop 1):=hd;have d9:(1:Int)<=(O:Int):=by omega
     have d8:¬O=1:=by omega
     clear hd J X f b2 c8 bx x3 U M W hz zx;go_wp2_with fail
     refine (q5q (some ⟨b4,o4+1,none⟩) 2 (O-1) _ 2 0 w3 b9 (by omega) (by omega) (by omega) (by omega) (by decide)).mono ?_;rintro e w4 ⟨A4,c4,rfl,_,a7⟩;rw[show (2:Int).toNat=2 from rfl,d0.out];have d1:=D.below a7;have d3:=Y.trans (a7.mono Y.size);have e0:w.1.size<w4.1.size:=by have:=a7.size;omega
     have b5:Below w4.1.size w4 (w4.alloc (.cells #[.int .i64 z] 3)):=Qm;clear D y3 b9 u d0;go_wp2_with (first
      |(at_builtin;refine qa2 _ Qbu rfl _ _ rfl (w.1.size+1) F q G (Xx N j) rfl (d1.below b5) (some ⟨w4.1.size,0,none⟩) 1 1 [iv z] rfl (qjf w4 z) (by omega) (qv2 z) (by omega) (by omega) (by have:=b5.size;omega) ?_)
      |fail)
     intro A5 c5 w5 E a8;have R:Below (w.1.size+1) w4 w5:=(b5.mono (by omega)).trans a8;have a6:=d3.trans (R.mono (by omega));have b3:w.1.size<w5.1.size:=by have:=R.size;omega
     rw[<-hN.out] at E;go_wp2;exact⟨⟨j+1,q+1,_,_,by omega,by omega,by go_num,rfl,E,a6,b3⟩,by simp[intOf];omega⟩
   ·obtain rfl:n=j:=by omega
    have T:Qs wr (w.1.size+1) 3 1 F q G (N.named.map iv):=by rw[<-qc1,a2.out];exact own
    go_wp2;go_ret;exact⟨_,_,_,rfl,T.less (by omega),W⟩
 ·have c6:N.items.length=0:=by rw[a1.2 hl];rfl
  have d2:=Lib.hid (show Xx N 0=N.named.map iv by have:=qc1 N;rw[c6] at this;exact this);refine (Rh N.lvl false (decide_eq_false hl) A n c B m d w1).mono ?_;rintro e w2 ⟨rfl,I⟩;have N2:=N1.below I N1.lt;have B2:=b1.trans (I.mono b1.size);have q2:=N2.c2;have zN:=N2.lt;clear hl c6 N1 b1 I;go_wp2_with fail
  clear q2;go_loopw [3,17] (λl i wr=>∃(j:Nat) (F:Option Addr) (G:Nat),j<=m/\i=.int .i64 (j:Int)/\l=.slice F j G/\Qs wr (w.1.size+1) 3 1 F j G (Uk N j)/\Below w.1.size w wr/\w.1.size<wr.1.size) (λ_ i _=>m-(intOf i).toNat)
  case atStart=>exact⟨0,_,_,Nat.zero_le _,rfl,rfl,q10 _ _ _ _,B2,zN⟩
  case round=>
   obtain⟨j,F,G,hj,rfl,rfl,own,W,hz⟩:=hrel;by_cases Q:j<m
   ·obtain⟨g,o,hA,hg,c0,c1,c2,c3⟩:=(hK.below W).cell Q;subst hA;have e2:=qhm N j (by rw[b7.out];exact Q);obtain⟨x,hx⟩:∃x,Qg N.kids j=x:=⟨_,rfl⟩;rw[hx] at c0 c1 c2 c3 e2;have E2:=Lib.hid e2;clear e2 hx;have bx:Below wr.1.size wr (wr.alloc (.cells #[.int .i64 x.k.obj,.int .i64 x.k.kind,.int .i64 x.k.off,.int .i64 x.a] 81)):=Qm;have b5:Below wr.1.size wr ((wr.alloc (.cells #[.int .i64 x.k.obj,.int .i64 x.k.kind,.int .i64 x.k.off,.int .i64 x.a] 81)).alloc (.cells #[.int .i64 x.a] 3)):=bx.alloc bx.size _;have b8:Jf ((wr.alloc (.cells #[.int .i64 x.k.obj,.int .i64 x.k.kind,.int .i64 x.k.off,.int .i64 x.a] 81)).alloc (.cells #[.int .i64 x.a] 3)) 1 (some ⟨wr.1.size+1,0,none⟩) 1 1 [iv x.a]:=by
     have:=qjf (wr.alloc (.cells #[.int .i64 x.k.obj,.int .i64 x.k.kind,.int .i64 x.k.off,.int .i64 x.a] 81)) x.a;rwa [World.size_alloc] at this
    go_wp2_with (first
     |(at_builtin;refine qa2 _ Qbu rfl _ _ rfl (w.1.size+1) F j G (Uk N j) rfl (own.below b5) (some ⟨wr.1.size+1,0,none⟩) 1 1 [iv x.a] rfl b8 (by omega) (qv2 x.a) (by omega) (by omega) (by have:=b5.size;omega) ?_)
     |fail)
    intro A5 c5 w5 E a8;have R:Below (w.1.size+1) wr w5:=(b5.mono (by omega)).trans a8;have a6:=W.trans (R.mono (by omega));have b3:w.1.size<w5.1.size:=by have:=R.size;omega
    rw[<-E2.out] at E;clear b8;go_wp2;exact⟨⟨j+1,_,_,by omega,by go_num,rfl,E,a6,b3⟩,by simp[intOf];omega⟩
   ·obtain rfl:m=j:=by omega
    have T:Qs wr (w.1.size+1) 3 1 F m G (N.named.map iv):=by
     rw[<-d2.out,<-qc0,b7.out];exact own
    go_wp2;go_ret;exact⟨_,_,_,rfl,T.less (by omega),W⟩
def sumTo:Nat->(Nat->Nat)->Nat
 |0,_=>0
 |n+1,f=>sumTo n f+f n
theorem q3z {f g:Nat->Nat}:∀{n:Nat},(∀b,b<n->f b=g b)->sumTo n f=sumTo n g
 |0,_=>rfl
 |n+1,h=>by
  unfold sumTo;rw[q3z (n:=n) (λb d=>h b (by omega)),h n (by omega)]
theorem qc4 {f:Nat->Nat}:∀{n:Nat},(∀b,b<n->f b=0)->sumTo n f=0
 |0,_=>rfl
 |n+1,h=>by
  unfold sumTo;rw[qc4 (n:=n) (λb d=>h b (by omega)),h n (by omega)]
theorem qfe {f g:Nat->Nat}{i:Nat}:∀{n:Nat},(∀b,b<n->b≠i->f b=g b)->i<n->sumTo n g+f i=sumTo n f+g i
 |0,_,hi=>by omega
 |n+1,h,hi=>by
  unfold sumTo;by_cases e:i=n
  ·subst e;rw[q3z (n:=i) (λb d=>h b (by omega) (by omega))];omega
  ·have:=qfe (n:=n) (λb d hn=>h b (by omega) hn) (by omega);have:=h n (by omega) (by omega);omega
theorem qff {f:Nat->Nat}:∀{n:Nat},0<sumTo n f->∃b,b<n/\0<f b
 |0,h=>by cases h
 |n+1,h=>by
  unfold sumTo at h;by_cases e:0<f n
  ·exact⟨n,by omega,e⟩
  ·obtain⟨b,h1,h2⟩:=qff (n:=n) (f:=f) (by omega);exact⟨b,by omega,h2⟩
theorem qdn {f:Nat->Nat}{i:Nat}:∀{n:Nat},i<n->f i<=sumTo n f
 |0,h=>by omega
 |n+1,h=>by
  unfold sumTo;by_cases e:i=n
  ·subst e;omega
  ·have:=qdn (f:=f) (n:=n) (i:=i) (by omega);omega
def refs (K:Nat->List Int)(most:Nat)(out:Nat->Nat)(a:Nat):Nat:=sumTo most λb=>if 1<=out b then (K b).count (a:Int) else 0
structure Ej (K:Nat->List Int)(roots:List Int)(most:Nat)(out:Nat->Nat)(todo:List Int):Prop where
 zero:out 0=0
 eq:∀a:Nat,0<a->a<most->out a+todo.count (a:Int)=roots.count (a:Int)+refs K most out a
structure Jo (n:Nat)(cnt:Nat->Nat)(K:Nat->List Int)(H:List Int):Prop where
 eq:∀a:Nat,0<a->a<n->cnt a=H.count (a:Int)+refs K n cnt a
section
variable {n:Nat}{cnt:Nat->Nat}{K:Nat->List Int}{H:List Int}
theorem Jo.perm (h:Jo n cnt K H){H':List Int}(hH:∀a:Nat,0<a->a<n->H'.count (a:Int)=H.count (a:Int)):Jo n cnt K H':=
 ⟨λa h1 h2=>by rw[hH a h1 h2];exact h.eq a h1 h2⟩
theorem q7m {K K':Nat->List Int}{cnt cnt':Nat->Nat}{n a:Nat}(h:∀b,b<n->(1<=cnt b↔1<=cnt' b)/\(1<=cnt b->K' b=K b)):refs K' n cnt' a=refs K n cnt a:=
 q3z λb f=>by
  obtain⟨h1,h2⟩:=h b f;by_cases e:1<=cnt b
  ·rw[if_pos e,if_pos (h1.1 e),h2 e]
  ·rw[if_neg e,if_neg (λd=>e (h1.2 d))]
theorem Jo.same (h:Jo n cnt K H){cnt':Nat->Nat}{K':Nat->List Int}(hc:∀b,b<n->cnt' b=cnt b)(hK:∀b,b<n->1<=cnt b->K' b=K b):Jo n cnt' K' H:=
 ⟨λa h1 h2=>by
  rw[hc a h2,h.eq a h1 h2];congr 1
  exact (q7m λb d=>⟨by rw[hc b d],hK b d⟩).symm⟩
theorem qhn {K K':Nat->List Int}{cnt cnt':Nat->Nat}{n i a:Nat}(hi:i<n)(p:∀b,b<n->b≠i->cnt' b=cnt b)(m:∀b,b<n->b≠i->K' b=K b) :
  refs K' n cnt' a+(if 1<=cnt i then (K i).count (a:Int) else 0)=refs K n cnt a+(if 1<=cnt' i then (K' i).count (a:Int) else 0):=
 qfe (f:=λb=>if 1<=cnt b then (K b).count (a:Int) else 0) (g:=λb=>if 1<=cnt' b then (K' b).count (a:Int) else 0)
  (λb d hn=>by
   show (if 1<=cnt b then (K b).count (a:Int) else 0)=(if 1<=cnt' b then (K' b).count (a:Int) else 0);rw[p b d hn,m b d hn]) hi
theorem Jo.put (h:Jo n cnt K H){c:Nat}{ks H0:List Int}{cnt':Nat->Nat}{K':Nat->List Int}(hc0:0<c)(hc:c<n)(hz:cnt c=0)(hH:∀a:Nat,0<a->a<n->H.count (a:Int)=ks.count (a:Int)+H0.count (a:Int))
  (h1:cnt' c=1) (h2:∀b,b<n->b≠c->cnt' b=cnt b) (h3:K' c=ks) (h4:∀b,b<n->b≠c->K' b=K b):Jo n cnt' K' ((c:Int)::H0):=by
 refine⟨λa d f=>?_⟩;have p:=qhn (a:=a) hc h2 h4;rw[if_neg (show ¬1<=cnt c by omega),if_pos (show 1<=cnt' c by omega),h3] at p;have u:=h.eq a d f;have y:=hH a d f;rw[List.count_cons];by_cases e:a=c
 ·subst e;rw[if_pos (by simp),h1];omega
 ·rw[if_neg (by intro m;have:=eq_of_beq m;omega),h2 a f e];omega
theorem Jo.ref (h:Jo n cnt K H){c:Nat}{cnt':Nat->Nat}(hc:1<=cnt c)(h1:cnt' c=cnt c+1)(h2:∀b,b<n->b≠c->cnt' b=cnt b):Jo n cnt' K ((c:Int)::H):=by
 refine⟨λa d f=>?_⟩;have u:refs K n cnt' a=refs K n cnt a:=q7m λb p=>⟨by
  by_cases e:b=c
  ·subst e;omega
  ·rw[h2 b p e],λ_=>rfl⟩
 have y:=h.eq a d f;rw[List.count_cons,u];by_cases e:a=c
 ·subst e;rw[if_pos (by simp),h1];omega
 ·rw[if_neg (by intro m;have:=eq_of_beq m;omega),h2 a f e];omega
theorem Jo.Qy (h:Jo n cnt K H){c:Nat}{H0:List Int}{cnt':Nat->Nat}(hH:∀a:Nat,0<a->a<n->H.count (a:Int)=((c:Int)::H0).count (a:Int))(hc:2<=cnt c)(h1:cnt' c+1=cnt c)(h2:∀b,b<n->b≠c->cnt' b=cnt b):Jo n cnt' K H0:=by
 refine⟨λa d f=>?_⟩;have y:refs K n cnt' a=refs K n cnt a:=q7m λb u=>⟨by
  by_cases e:b=c
  ·subst e;omega
  ·rw[h2 b u e],λ_=>rfl⟩
 have A:=h.eq a d f;have m:=hH a d f;rw[List.count_cons] at m;rw[y];by_cases e:a=c
 ·subst e;rw[if_pos (by simp)] at m;omega
 ·rw[if_neg (by intro p;have:=eq_of_beq p;omega)] at m;rw[h2 a f e];omega
theorem Jo.last (h:Jo n cnt K H){c:Nat}{H0:List Int}{cnt':Nat->Nat}(hc0:0<c)(hcn:c<n)(hH:∀a:Nat,0<a->a<n->H.count (a:Int)=((c:Int)::H0).count (a:Int))(hc:cnt c=1)(h1:cnt' c=0)(h2:∀b,b<n->b≠c->cnt' b=cnt b):Jo n cnt' K (K c++H0):=by
 refine⟨λa d f=>?_⟩;have u:=qhn (a:=a) (K:=K) (K':=K) hcn h2 (λ_ _ _=>rfl);rw[if_pos (show 1<=cnt c by omega),if_neg (show ¬1<=cnt' c by omega)] at u;have y:=h.eq a d f;have m:=hH a d f;rw[List.count_cons] at m;rw[List.count_append];by_cases e:a=c
 ·subst e;rw[if_pos (by simp)] at m;omega
 ·rw[if_neg (by intro p;have:=eq_of_beq p;omega)] at m;rw[h2 a f e];omega
theorem Jo.set (h:Jo n cnt K H){c:Nat}{ks H0:List Int}{K':Nat->List Int}(hcn:c<n)(hc:1<=cnt c)(hH:∀a:Nat,0<a->a<n->H.count (a:Int)=ks.count (a:Int)+H0.count (a:Int))(h3:K' c=ks)(h4:∀b,b<n->b≠c->K' b=K b):Jo n cnt K' (K c++H0):=by
 refine⟨λa d f=>?_⟩;have m:=qhn (a:=a) (cnt:=cnt) (cnt':=cnt) hcn (λ_ _ _=>rfl) h4;rw[if_pos hc,if_pos hc,h3] at m;have p:=h.eq a d f;have u:=hH a d f;rw[List.count_append];omega
theorem Jo.held (h:Jo n cnt K H){c:Nat}(hc0:0<c)(hcn:c<n)(hm:(c:Int)∈H):1<=cnt c:=by
 have:=h.eq c hc0 hcn;have h1:0<H.count (c:Int):=List.count_pos_iff.2 hm;omega
theorem Jo.named (h:Jo n cnt K H){b c:Nat}(hc0:0<c)(hcn:c<n)(hb:b<n)(h1:1<=cnt b)(hm:(c:Int)∈K b):1<=cnt c:=by
 have h2:=h.eq c hc0 hcn;have d:=qdn (f:=λb=>if 1<=cnt b then (K b).count (c:Int) else 0) hb;have m:0<(K b).count (c:Int):=List.count_pos_iff.2 hm;rw[if_pos h1] at d;have e:refs K n cnt c=sumTo n λb=>if 1<=cnt b then (K b).count (c:Int) else 0:=rfl
 omega
theorem Jo.by_ (h:Jo n cnt K H){c:Nat}(hc0:0<c)(hcn:c<n)(h1:1<=cnt c):(c:Int)∈H\/∃b,b<n/\1<=cnt b/\(c:Int)∈K b:=by
 have h2:=h.eq c hc0 hcn;by_cases e:0<H.count (c:Int)
 ·exact .inl (List.count_pos_iff.1 e)
 ·obtain⟨b,p,d⟩:=qff (f:=λb=>if 1<=cnt b then (K b).count (c:Int) else 0) (n:=n) (by
   have e:refs K n cnt c=sumTo n λb=>if 1<=cnt b then (K b).count (c:Int) else 0:=rfl
   omega)
  have d:0<(if 1<=cnt b then (K b).count (c:Int) else 0):=d;by_cases m:1<=cnt b
  ·rw[if_pos m] at d;exact .inr ⟨b,p,m,List.count_pos_iff.1 d⟩
  ·rw[if_neg m] at d
   cases d
theorem Jo.reached (h:Jo n cnt K H){B:Nat}(Oa:Nat->Nat)(hlev:∀b a:Nat,b<n->1<=cnt b->(a:Int)∈K b->Oa a<Oa b)(hB:∀b,Oa b<=B)(h0:cnt 0=0){S:Nat->Prop}(hS:∀a:Nat,0<a->a<n->(a:Int)∈H->S a)
  (hK:∀b a:Nat,0<b->b<n->0<a->a<n->1<=cnt b->S b->(a:Int)∈K b->S a):∀L a,B-Oa a<=L->0<a->a<n->1<=cnt a->S a:=by
 intro L;induction L using Nat.strongRecOn with
 |ind L ih=>
  intro a E d u h1;rcases h.by_ d u h1 with h2|⟨b,y,f,p⟩
  ·exact hS a d u h2
  ·have A:=hlev b a y f p;have D:=hB b;have m:0<b:=by
    rcases Nat.eq_zero_or_pos b with e|e
    ·subst e;omega
    ·exact e
   exact hK b a m y d u f (ih (B-Oa b) (by omega) b (Nat.le_refl _) m y f) p
end
def Qd (its:List Qc):Prop:=its.Pairwise λx y=>x.k.less y.k=true
def Qp (R:Int->Nd × Int):Nat->Int->List Qc->Prop
 |0,a,its=>R a=(⟨0,its,[]⟩,0)/\its≠[]
 |l+1,a,its=>∃(kids:List Ql) (parts:List (List Qc)),R a=(⟨((l+1:Nat):Int),[],kids⟩,0)/\kids≠[]/\parts.length=kids.length/\its=parts.flatten/\∀j,j<kids.length->Qp R l (Qg kids j).a (parts.getD j [])/\∃x r,parts.getD j []=x::r/\(Qg kids j).k=x.k
def valOf (its:List Qc)(k:Kd):Option (List UInt8):=(its.find? λx=>x.k.same k).map (·.v)
theorem q6j {a b k:Kd}(h:b.same k=true):a.less k=a.less b:=by
 rw[Kd.same_iff] at h;obtain⟨h1,h2,d⟩:=h;unfold Kd.less;rw[h1,h2,d]
theorem q4m {a b k:Kd}(h:b.same k=true):k.less a=b.less a:=by
 rw[Kd.same_iff] at h;obtain⟨h1,h2,d⟩:=h;unfold Kd.less;rw[h1,h2,d]
theorem q6k {a b:Kd}(h:a.less b=true):b.less a=false:=by
 rcases Kd.total a b with⟨_,h2,_⟩|⟨h1,_,_⟩|⟨h1,_,_⟩
 ·exact h2
 ·rw[h] at h1;cases h1
 ·rw[h] at h1;cases h1
theorem q38 (a:Kd):a.less a=false:=by
 rcases Kd.total a a with⟨h1,h2,d⟩|⟨_,_,d⟩|⟨h1,_,_⟩
 ·exact absurd rfl d
 ·exact absurd rfl d
 ·exact h1
theorem qc5 {a b c:Kd}(h1:a.less b=true)(h2:c.less b=false):a.less c=true:=by
 rcases Kd.total b c with⟨d,_,_⟩|⟨_,d,_⟩|⟨_,_,rfl⟩
 ·exact Kd.trans a b c h1 d
 ·rw[h2] at d;cases d
 ·exact h1
theorem getD_cons_zero {α:Type}(x:α)(l:List α)(d:α):(x::l).getD 0 d=x:=rfl
theorem getD_cons_succ {α:Type}(x:α)(l:List α)(d:α)(j:Nat):(x::l).getD (j+1) d=l.getD j d:=by
 rw[List.getD_eq_getElem?_getD,List.getD_eq_getElem?_getD,List.getElem?_cons_succ]
theorem q8h {α:Type}(p:α->Bool):∀(parts:List (List α)) (j:Nat),j<parts.length->(∀q,q<parts.length->q≠j->∀x∈parts.getD q [],p x=false)->parts.flatten.find? p=(parts.getD j []).find? p
 |[],j,hj,_=>absurd hj (Nat.not_lt_zero _)
 |x::parts,0,_,h=>by
  rw[List.flatten_cons,List.find?_append,getD_cons_zero];have h0:parts.flatten.find? p=none:=by
   rw[List.find?_eq_none];intro y d;obtain⟨l,u,f⟩:=List.mem_flatten.1 d;obtain⟨q,m,e⟩:=List.getElem_of_mem u;have:=h (q+1) (by rw[List.length_cons];omega) (by omega) y (by rw[getD_cons_succ,List.getD_eq_getElem?_getD,List.getElem?_eq_getElem m,e];exact f);simpa using this
  rw[h0,Option.or_none]
 |x::parts,j+1,hj,h=>by
  rw[List.flatten_cons,List.find?_append,getD_cons_succ];have h0:x.find? p=none:=by
   rw[List.find?_eq_none];intro y d;have:=h 0 (by rw[List.length_cons];omega) (by omega) y d;simpa using this
  rw[h0,Option.none_or];refine q8h p parts j (by simpa using hj) λq m A y d=>?_
  exact h (q+1) (by rw[List.length_cons];omega) (by omega) y (by rw[getD_cons_succ];exact d)
theorem q5c {parts:List (List Qc)}(h:Qd parts.flatten){i j:Nat}(d:i<j)(f:j<parts.length){x y:Qc}(m:x∈parts.getD i [])(p:y∈parts.getD j []):x.k.less y.k=true:=by
 unfold Qd at h;rw[List.pairwise_flatten] at h;have h2:=List.pairwise_iff_getElem.1 h.2 i j (by omega) f d;rw[List.getD_eq_getElem?_getD,List.getElem?_eq_getElem (by omega)] at m;rw[List.getD_eq_getElem?_getD,List.getElem?_eq_getElem f] at p;exact h2 x m y p
theorem q3j {parts:List (List Qc)}(h:Qd parts.flatten)(j:Nat):Qd (parts.getD j []):=by
 unfold Qd at h ⊢;rw[List.pairwise_flatten] at h;rw[List.getD_eq_getElem?_getD];by_cases d:j<parts.length
 ·rw[List.getElem?_eq_getElem d];exact h.1 _ (List.getElem_mem d)
 ·rw[List.getElem?_eq_none (by omega)];exact List.Pairwise.nil
theorem q4n (l:Int)(kids:List Ql):(⟨l,[],kids⟩:Nd).keys=kids.map (·.k):=rfl
theorem q1u (its:List Qc):(⟨0,its,[]⟩:Nd).keys=its.map (·.k):=by unfold Nd.keys;simp
theorem q4o (kids:List Ql){j:Nat}(d:j<kids.length):keyAt (kids.map (·.k)) j=(Qg kids j).k:=by
 unfold keyAt Qg;rw[List.getD_eq_getElem?_getD,List.getD_eq_getElem?_getD,List.getElem?_map,List.getElem?_eq_getElem d];rfl
theorem q18 (its:List Qc){j:Nat}(d:j<its.length):keyAt (its.map (·.k)) j=(Qj its j).k:=by
 unfold keyAt Qj;rw[List.getD_eq_getElem?_getD,List.getD_eq_getElem?_getD,List.getElem?_map,List.getElem?_eq_getElem d];rfl
theorem qsk {R:Int->Nd × Int}{l:Nat}{a:Int}{its:List Qc}(h:Qp R (l+1) a its)(F:Qd its)(k:Kd) :
  ∃(kids:List Ql) (part:List Qc),R a=(⟨((l+1:Nat):Int),[],kids⟩,0)/\(⟨((l+1:Nat):Int),[],kids⟩:Nd).Za k<kids.length/\Qp R l (Qg kids ((⟨((l+1:Nat):Int),[],kids⟩:Nd).Za k)).a part/\Qd part/\valOf its k=valOf part k:=by
 obtain⟨kids,parts,h1,h2,X,rfl,p⟩:=h;have J:(⟨((l+1:Nat):Int),[],kids⟩:Nd).Za k=lastTo (kids.map (·.k)) k kids.length:=by
  unfold Nd.Za;have:¬((l+1:Nat):Int)=0:=by omega
  dsimp only;rw[if_neg this,q4n,List.length_map]
 obtain⟨j,B⟩:∃j,lastTo (kids.map (·.k)) k kids.length=j:=⟨_,rfl⟩;have Y:0<kids.length:=List.length_pos_iff.2 h2;have d:j<kids.length:=by
  rcases q75 (kids.map (·.k)) k kids.length with e|e<;>omega
 refine⟨kids,parts.getD j [],h1,by rw[J,B];exact d,by rw[J,B];exact (p j d).1,q3j F j,?_⟩;unfold valOf;rw[q8h _ parts j (by omega) λq Z E x f=>?_];obtain⟨_,y,r,G,M⟩:=p q (by omega);rcases Nat.lt_or_gt_of_ne E with D|W
 ·-- ahead of the kid's key,that is not behind k
  obtain⟨_,z,s,O,Q⟩:=p j d;have T:x.k.less z.k=true:=q5c F D (by omega) f (by rw[O];exact List.mem_cons_self ..);have u:k.less z.k=false:=by
   have:=q5s (kids.map (·.k)) k kids.length (by omega);rw[B,q4o kids d,Q] at this;exact this
  cases A:x.k.same k with
  |false=>rfl
  |true=>
   have:=q4m (a:=z.k) A;rw[u,T] at this
   cases this
 ·have u:k.less y.k=true:=by
   have:=q53 (kids.map (·.k)) k kids.length q (by omega) (by omega);rw[q4o kids (by omega),M] at this;exact this
  cases A:x.k.same k with
  |false=>rfl
  |true=>
   have m:x.k.less y.k=true:=by rw[<-q4m A];exact u
   rw[G] at f;rcases List.mem_cons.1 f with rfl|f
   ·rw[q38] at m;cases m
   ·have I:=q3j F q;rw[G] at I;have U:=(List.pairwise_cons.1 I).1 x f;rw[q6k U] at m;cases m
theorem qjg {its:List Qc}(I:Qd its)(k:Kd):valOf its k=if Vb (its.map (·.k)) k (lead (its.map (·.k)) k)=true then some (Qj its (lead (its.map (·.k)) k)).v else none:=by
 obtain⟨j,y⟩:∃j,lead (its.map (·.k)) k=j:=⟨_,rfl⟩;have G:j<=its.length:=by have:=qb2 (its.map (·.k)) k;rw[List.length_map] at this;omega
 rw[y];have F:∀q,q<j->(Qj its q).k.less k=true:=λq m=>by
  have:=q6b (its.map (·.k)) k q (by omega);rwa [q18 its (by omega)] at this
 have d:∀q (m:q<its.length),q≠j\/(Qj its j).k.same k=false->(its[q]).k.same k=false:=λq m A=>by
  have e:Qj its q=its[q]:=by unfold Qj;rw[List.getD_eq_getElem?_getD,List.getElem?_eq_getElem m];rfl
  cases p:(its[q]).k.same k with
  |false=>rfl
  |true=>
   rcases Nat.lt_trichotomy q j with h1|h1|h1
   ·have h2:=F q h1;rw[e,q6j p,q38] at h2
    cases h2
   ·subst h1;rcases A with h2|h2
    ·exact absurd rfl h2
    ·rw[e,p] at h2;cases h2
   ·have D:(Qj its j).k.less k=false:=by
     have:=qb3 (its.map (·.k)) k (by rw[y,List.length_map];omega);rwa [y,q18 its (by omega)] at this
    have E:=List.pairwise_iff_getElem.1 I j q (by omega) m h1;have u:Qj its j=its[j]'(by omega):=by unfold Qj;rw[List.getD_eq_getElem?_getD,List.getElem?_eq_getElem (by omega)];rfl
    rw[u,q6j p,E] at D
    cases D
 unfold valOf Vb;rw[List.length_map];by_cases f:j<its.length
 ·rw[decide_eq_true f,Bool.true_and,q18 its f];have u:Qj its j=its[j]:=by unfold Qj;rw[List.getD_eq_getElem?_getD,List.getElem?_eq_getElem f];rfl
  cases p:(Qj its j).k.same k with
  |true=>
   rw[if_pos rfl];have:its.find? (λx=>x.k.same k)=some its[j]:=by
    rw[List.find?_eq_some_iff_getElem];refine⟨by rw[<-u];exact p,j,f,rfl,λq m=>?_⟩;rw[d q (by omega) (.inl (by omega))];rfl
   rw[this,u];rfl
  |false=>
   have:its.find? (λx=>x.k.same k)=none:=by
    rw[List.find?_eq_none];intro x B;obtain⟨q,m,e⟩:=List.getElem_of_mem B;rw[<-e,d q m (.inr p)];simp
   rw[this];rfl
 ·rw[decide_eq_false f,Bool.false_and];have:its.find? (λx=>x.k.same k)=none:=by
   rw[List.find?_eq_none];intro x B;obtain⟨q,m,e⟩:=List.getElem_of_mem B;rw[<-e,d q m (.inl (by omega))];simp
  rw[this];rfl
def Aj (R:Int->Nd × Int)(k:Kd):Nat->Int->List UInt8 × Int
 |0,a=>if (R a).2≠0 then ([],(R a).2) else if (R a).1.lvl≠0 then ([],5) else if Vb (R a).1.keys k ((R a).1.Za k)=true then ((Qj (R a).1.items ((R a).1.Za k)).v,0) else ([],10)
 |l+1,a=>if (R a).2≠0 then ([],(R a).2) else if (R a).1.lvl≠((l+1:Nat):Int) then ([],5) else Aj R k l (Qg (R a).1.kids ((R a).1.Za k)).a
def Gl (o:Option (List UInt8)):List UInt8 × Int:=match o with|some v=>(v,0)|none=>([],10)
theorem q39 {R:Int->Nd × Int}:∀{l:Nat} {a:Int} {its:List Qc},Qp R l a its->∃x r,its=x::r
 |0,a,its,h=>by
  match its,h.2 with
  |x::r,_=>exact⟨x,r,rfl⟩
 |l+1,a,its,h=>by
  obtain⟨kids,parts,_,h2,d,rfl,m⟩:=h;have f:0<kids.length:=List.length_pos_iff.2 h2;obtain⟨_,x,r,e,_⟩:=m 0 f;match parts,d with
  |[],d=>rw[<-d] at f;cases f
  |p::ps,_=>
   have e:p=x::r:=e;exact⟨x,r++ps.flatten,by rw[List.flatten_cons,e];rfl⟩
theorem qfg {R:Int->Nd × Int}(k:Kd):∀(l:Nat) (a:Int) (its:List Qc),Qp R l a its->Qd its->Aj R k l a=Gl (valOf its k)
 |0,a,its,h,hr=>by
  obtain⟨h1,_⟩:=h;have p:(⟨0,its,[]⟩:Nd).Za k=lead (its.map (·.k)) k:=by
   unfold Nd.Za;rw[if_pos rfl,q1u]
  unfold Aj;rw[h1];dsimp only;rw[if_neg (by simp),if_neg (by simp),p,q1u,qjg hr];split<;>rfl
 |l+1,a,its,h,hr=>by
  obtain⟨kids,part,h1,_,d,f,m⟩:=qsk h hr k;unfold Aj;rw[h1];dsimp only;rw[if_neg (by simp),if_neg (by simp),qfg k l _ part d f,m]
def Tf (cuts:List Int)(i:Nat):Nat:=if cuts.length=0 then 0 else if cuts.getD (i % cuts.length) 0<0 then (-(cuts.getD (i % cuts.length) 0+1)).toNat else (cuts.getD (i % cuts.length) 0).toNat
def U5 (lo hi:Nat)(cuts:List Int)(i len:Nat):Nat:=if len<lo+Tf cuts i % (hi-lo+1)+lo then lo else lo+Tf cuts i % (hi-lo+1)
def Xn {α:Type}(lo hi:Nat)(cuts:List Int):Nat->Nat->List α->List (List α)
 |0,_,l=>[l]
 |f+1,i,l=>if hi<l.length then l.take (U5 lo hi cuts i l.length)::Xn lo hi cuts f (i+1) (l.drop (U5 lo hi cuts i l.length)) else [l]
theorem qfh {lo hi:Nat}(cuts:List Int)(i len:Nat)(h:2*lo<=hi+1)(f:hi<len)(d:lo<=hi):lo<=U5 lo hi cuts i len/\U5 lo hi cuts i len<=hi/\U5 lo hi cuts i len+lo<=len:=by
 unfold U5;have:=Nat.mod_lt (Tf cuts i) (show 0<hi-lo+1 by omega);split<;>omega
theorem q6l {α:Type}(lo hi:Nat)(cuts:List Int):∀(f i:Nat) (l:List α),(Xn lo hi cuts f i l).flatten=l
 |0,_,l=>by simp[Xn]
 |f+1,i,l=>by
  unfold Xn;split
  ·rw[List.flatten_cons,q6l lo hi cuts f (i+1),List.take_append_drop]
  ·simp
theorem q9r {α:Type}{lo hi:Nat}(cuts:List Int)(h:2*lo<=hi+1)(h1:1<=lo)(u:lo<=hi):∀(f i:Nat) (l:List α),l.length<=f+hi->∀p∈Xn lo hi cuts f i l,p.length<=hi/\(lo<=p.length\/p=l)
 |0,_,l,hf,p,d=>by
  obtain rfl:p=l:=by simpa [Xn] using d
  exact⟨by omega,.inr rfl⟩
 |f+1,i,l,hf,p,d=>by
  unfold Xn at d;by_cases y:hi<l.length
  ·rw[if_pos y] at d;obtain⟨A,B,D⟩:=qfh cuts i l.length h y u;rcases List.mem_cons.1 d with rfl|d
   ·rw[List.length_take];exact⟨by omega,.inl (by omega)⟩
   ·obtain⟨h2,m⟩:=q9r cuts h h1 u f (i+1) _ (by rw[List.length_drop];omega) p d;refine⟨h2,.inl ?_⟩;rcases m with m|m
    ·exact m
    ·rw[m,List.length_drop];omega
  ·rw[if_neg y] at d;obtain rfl:p=l:=by simpa using d
   exact⟨by omega,.inr rfl⟩
theorem qfi {α:Type}{lo hi:Nat}(cuts:List Int)(h:2*lo<=hi+1)(d:lo<=hi):∀(f i:Nat) (l:List α),(Xn lo hi cuts f i l).length*lo<=l.length+lo/\1<=(Xn lo hi cuts f i l).length/\(1<(Xn lo hi cuts f i l).length->hi<l.length)
 |0,_,l=>by
  unfold Xn;rw[List.length_singleton];exact⟨by omega,by omega,λh=>by omega⟩
 |f+1,i,l=>by
  unfold Xn;split
  ·rename_i m;obtain⟨u,_,y⟩:=qfh cuts i l.length h m d;obtain⟨h2,p,_⟩:=qfi cuts h d f (i+1) (l.drop (U5 lo hi cuts i l.length));rw[List.length_drop] at h2;rw[List.length_cons,Nat.add_mul,Nat.one_mul];exact⟨by omega,by omega,λ_=>m⟩
  ·rename_i m;rw[List.length_singleton];exact⟨by omega,by omega,λh=>by omega⟩
theorem P9 {R R':Int->Nd × Int}(h:∀a,(R a).2=0->R' a=R a):∀{l:Nat} {a:Int} {its:List Qc},Qp R l a its->Qp R' l a its
 |0,a,its,hh=>⟨by rw[h a (by rw[hh.1])];exact hh.1,hh.2⟩
 |l+1,a,its,hh=>by
  obtain⟨kids,parts,h1,h2,m,p,d⟩:=hh;exact⟨kids,parts,by rw[h a (by rw[h1])];exact h1,h2,m,p,λj f=>⟨P9 h (d j f).1,(d j f).2⟩⟩
theorem qfj {α β:Type}(g:α->β)(lo hi:Nat)(cuts:List Int):∀(f i:Nat) (l:List α),Xn lo hi cuts f i (l.map g)=(Xn lo hi cuts f i l).map (List.map g)
 |0,_,l=>rfl
 |f+1,i,l=>by
  unfold Xn;rw[List.length_map];split
  ·rw[List.map_cons,<-List.map_take,<-List.map_drop,qfj g lo hi cuts f (i+1)]
  ·rfl
abbrev Zw:=Int × List Qc
def Qn (x:Zw):Ql:=⟨(Qj x.2 0).k,x.1⟩
def rowOf (G:List Zw):List Qc:=(G.map (·.2)).flatten
theorem qdo {G:List Zw}{j:Nat}(d:j<G.length):Qg (G.map Qn) j=Qn G[j]:=by
 unfold Qg;rw[List.getD_eq_getElem?_getD,List.getElem?_map,List.getElem?_eq_getElem d];rfl
theorem q5d {G:List Zw}{j:Nat}(d:j<G.length):(G.map (·.2)).getD j []=(G[j]).2:=by
 rw[List.getD_eq_getElem?_getD,List.getElem?_map,List.getElem?_eq_getElem d];rfl
theorem q9s {R:Int->Nd × Int}{l:Nat}{b:Int}{G:List Zw}(h:∀x∈G,Qp R l x.1 x.2)(f:G≠[])(m:R b=(⟨((l+1:Nat):Int),[],G.map Qn⟩,0)):Qp R (l+1) b (rowOf G):=by
 refine⟨G.map Qn,G.map (·.2),m,?_,by rw[List.length_map,List.length_map],rfl,λj d=>?_⟩
 ·intro e;exact f (List.map_eq_nil_iff.1 e)
 ·rw[List.length_map] at d;rw[qdo d,q5d d];have h1:=h _ (List.getElem_mem d);obtain⟨x,r,e⟩:=q39 h1;exact⟨h1,x,r,e,by unfold Qn Qj;rw[e];rfl⟩
theorem q6m (Gs:List (List Zw)):rowOf Gs.flatten=(Gs.map rowOf).flatten:=by
 unfold rowOf;rw[List.map_flatten,List.flatten_flatten,List.map_map];rfl
theorem qjh {ks:List Kd}(hm:∀k∈ks,k.may=true)(h:ks.Pairwise λa b=>a.less b=true):rises ks=true:=by
 refine qqt λj d=>?_
 have e:∀i,(f:i<ks.length)->keyAt ks i=ks[i]:=λi f=>by unfold keyAt;rw[List.getD_eq_getElem?_getD,List.getElem?_eq_getElem f];rfl
 unfold Wx;rw[e j d,hm _ (List.getElem_mem d),Bool.true_and];by_cases h0:j=0
 ·subst h0;rfl
 ·rw[e (j-1) (by omega),List.pairwise_iff_getElem.1 h (j-1) j (by omega) d (by omega),Bool.or_true]
theorem qsl {p:List Qc}(h1:1<=p.length)(u:p.length<=6)(y:Qd p)(m:∀x∈p,x.k.may=true/\x.v.length<=28):(⟨0,p,[]⟩:Nd).may=true:=by
 unfold Nd.may;rw[if_pos rfl,Bool.and_eq_true,Bool.and_eq_true];refine⟨?_,?_,decide_eq_true ⟨rfl,h1,u⟩⟩
 ·unfold q6e;rw[List.all_eq_true];exact λx d=>decide_eq_true (m x d).2
 ·rw[q1u];refine qjh (λk d=>?_) (List.Pairwise.map _ (λ_ _ h=>h) y);obtain⟨x,f,rfl⟩:=List.mem_map.1 d;exact (m x f).1
theorem qfk {l:Nat}{G:List Zw}(R:l<7)(h2:2<=G.length)(u:G.length<=12)(O:Qd (rowOf G))(M:∀x∈rowOf G,x.k.may=true)(J:∀x∈G,1<=x.1/\x.1<2048)(D:∀x∈G,x.2≠[]):(⟨((l+1:Nat):Int),[],G.map Qn⟩:Nd).may=true:=by
 unfold Nd.may;have h0:¬((l+1:Nat):Int)=0:=by omega
 dsimp only;rw[if_neg h0,Bool.and_eq_true,Bool.and_eq_true];refine⟨?_,?_,decide_eq_true ⟨by omega,by omega,rfl,by rw[List.length_map];exact h2,by rw[List.length_map];exact u⟩⟩
 ·unfold G7;rw[List.all_eq_true];intro x d;obtain⟨y,Q,rfl⟩:=List.mem_map.1 d;exact decide_eq_true (J y Q)
 ·rw[q4n,List.map_map];have first:∀x∈G,∃y r,x.2=y::r/\(Qn x).k=y.k:=λx d=>by
   match e:x.2,D x d with
   |y::r,_=>exact⟨y,r,rfl,by unfold Qn Qj;rw[e];rfl⟩
  refine qjh (λk d=>?_) ?_
  ·obtain⟨x,f,rfl⟩:=List.mem_map.1 d;obtain⟨y,r,m,p⟩:=first x f
   show (Qn x).k.may=true;rw[p];refine M y ?_;unfold rowOf;rw[List.mem_flatten];exact⟨x.2,List.mem_map_of_mem f,by rw[m];exact List.mem_cons_self ..⟩
  ·rw[List.pairwise_map,List.pairwise_iff_getElem];intro i j E B A;obtain⟨y,r,m,p⟩:=first _ (List.getElem_mem E)
   obtain⟨z,s,F,I⟩:=first _ (List.getElem_mem B)
   show (Qn G[i]).k.less (Qn G[j]).k=true;rw[p,I];refine q5c O A (by rw[List.length_map];exact B) (x:=y) (y:=z) ?_ ?_
   ·rw[q5d E,m];exact List.mem_cons_self ..
   ·rw[q5d B,F];exact List.mem_cons_self ..
theorem q9t {f:Nat->Nat}{k:Nat}:∀{n:Nat},(∀b,b<n->f b<=k)->sumTo n f<=k*n
 |0,_=>Nat.zero_le _
 |n+1,h=>by
  unfold sumTo;have h1:=q9t (n:=n) (f:=f) (k:=k) (λb d=>h b (by omega));have h2:=h n (by omega);rw[Nat.mul_succ];omega
theorem qlk {K:Nat->List Int}{most k:Nat}{out:Nat->Nat}(d:∀b,b<most->(K b).length<=k)(a:Nat):refs K most out a<=k*most:=
 q9t λb f=>by
  by_cases e:1<=out b
  ·rw[if_pos e];exact Nat.le_trans List.count_le_length (d b f)
  ·rw[if_neg e];exact Nat.zero_le _
theorem Ej.same {K:Nat->List Int}{roots:List Int}{most:Nat}{out out':Nat->Nat}{todo:List Int}(H:Ej K roots most out todo)(hm:0<most)(h:∀b,b<most->out' b=out b):Ej K roots most out' todo:=by
 refine⟨by rw[h 0 hm];exact H.zero,λa h1 h2=>?_⟩;rw[h a h2,H.eq a h1 h2];congr 1
 exact q3z λb d=>by rw[h b d]
theorem Rt.cell {w:World}{A:Option Addr}{n c:Nat}{zs:List Int}(h:Rt w A n c zs){j:Nat}(hj:j<n):∃g o,A=some ⟨g,o,none⟩/\g<w.1.size/\w.cell? ⟨g,o+j,none⟩=some (.int .i64 (zs.getD j 0)):=by
 have m:zs.length=n:=by simpa using Jf.len h
 obtain⟨g,o,e,d,_,f⟩:=h.2.2.2 j (iv (zs.getD j 0)) (by rw[List.getElem?_map,List.getD_eq_getElem?_getD,List.getElem?_eq_getElem (by omega)];rfl);have:=f 0 _ rfl;rw[Nat.mul_one,Nat.add_zero] at this;exact⟨g,o,e,d,this⟩
