/- The reference's may: whether keys may be, and rise -/
import Derived.Test.YtloolbmdiimanaaGreatDoorGv5
namespace Go.Proofs.YtloolbmdiimanaaGreatDoor
open Go Go.RowKit Go.Proofs Tryz
def Ws (ks:List Kd)(i:Nat):Bool:=(keyAt ks i).may&&(decide (i=0)||(keyAt ks (i-1)).less (keyAt ks i))
def rises (ks:List Kd):Bool:=(List.range ks.length).all (Ws ks)
theorem qry {ks:List Kd}(h:∀j,j<ks.length->Ws ks j=true):rises ks=true:=by
 unfold rises;rw[List.all_eq_true];exact λj f=>h j (List.mem_range.1 f)
def Nd.keys (N:Nd):List Kd:=N.items.map (·.k)++N.kids.map (·.k)
def NB (w:WD)(b:Nat)(l:Int)(A:OA)(n c:Nat)(B:OA)(m d:Nat):Prop:=∃t,w.1[b]?=some (.cells #[.int .i64 l,.slice A n c,.slice B m d] t (0,0))
section
variable {w w':WD}{b:Nat}{l:Int}{A B:OA}{n c m d:Nat}
theorem NB.new (w:WD)(l:Int)(A:OA)(n c:Nat)(B:OA)(m d:Nat)(t:TypeId):NB (w.alloc (.cells #[.int .i64 l,.slice A n c,.slice B m d] t)) w.1.size l A n c B m d:=⟨t,BE w _⟩
theorem NB.below (H:NB w b l A n c B m d){E:Nat}(hb:Below E w w')(hB:b<E):NB w' b l A n c B m d:=by
 obtain⟨t,H⟩:=H;exact⟨t,(hb.block b hB).trans H⟩
theorem NB.lt (H:NB w b l A n c B m d):b<w.1.size:=by
 obtain⟨t,H⟩:=H;exact (Array.getElem?_eq_some_iff.1 H).1
theorem NB.c0 (H:NB w b l A n c B m d):w.cell? ⟨b,0,none⟩=some (.int .i64 l):=by
 obtain⟨t,H⟩:=H;rw[cell_of_row _ _ _ _ _ _ H];rfl
theorem NB.c1 (H:NB w b l A n c B m d):w.cell? ⟨b,1,none⟩=some (.slice A n c):=by
 obtain⟨t,H⟩:=H;rw[cell_of_row _ _ _ _ _ _ H];rfl
theorem NB.c2 (H:NB w b l A n c B m d):w.cell? ⟨b,2,none⟩=some (.slice B m d):=by
 obtain⟨t,H⟩:=H;rw[cell_of_row _ _ _ _ _ _ H];rfl
end
theorem Pz (l:Int)(r:Bool)(h:decide (l=0)=r)(A:OA)(n c:Nat)(B:OA)(m d:Nat)(w:WD) :
  Calls prog 116 #[.agg #[.int .i64 l,.slice A n c,.slice B m d]] w λe w'=>e=.returned (.bool r)/\Below w.1.size w w':=by
 go_enter func116,ntmps116
 go_wp2;go_ret;refine⟨?_,Ql⟩;rw[<-h];first|rfl|(refine congrArg (λx=>Ending.returned (Value.bool x)) ?_;rw[Bool.eq_iff_iff];simp)
theorem q2y (x a b:Int)(r:Bool)(h:decide (a<=x/\x<=b)=r)(w:WD) :
  Calls prog 152 #[.int .i64 x,.int .i64 a,.int .i64 b] w λe w'=>e=.returned (.bool r)/\w=w':=by
 subst h;go_enter func152,ntmps152
 go_wp2;all_goals
  go_ret;refine⟨congrArg (λx=>Ending.returned (Value.bool x)) ?_,rfl⟩;first
   |exact (AH (by omega)).symm
   |exact decide_eq_decide.2 (by omega)
   |(rw[Bool.eq_iff_iff];simp;omega)
theorem qnl (x:Int)(w:WD) :
  Calls prog 115 #[.int .i64 x] w λe w'=>e=.returned (.int .i64 (if x=0 then 3 else 4))/\w=w':=by
 by_cases h:x=0
 ·rw[AA h];go_enter func115,ntmps115
  go_wp2;go_ret;exact⟨rfl,rfl⟩
 ·rw[AB h];go_enter func115,ntmps115
  go_wp2;go_ret;exact⟨rfl,rfl⟩
theorem q4e (x k:Int)(h:(if x=0 then 3 else 4)=k)(w:WD) :
  Calls prog 115 #[.int .i64 x] w λe w'=>e=.returned (.int .i64 k)/\w=w':=by
 subst h;exact qnl x w
theorem q2f (k:Kd)(B:OA)(m d:Nat)(w:WD) :
  Calls prog 124 #[.agg #[.int .i64 k.obj,.int .i64 k.kind,.int .i64 k.off,.slice B m d]] w λe w'=>e=.returned (.agg #[.int .i64 k.obj,.int .i64 k.kind,.int .i64 k.off])/\Below w.1.size w w':=by
 go_enter func124,ntmps124
 go_wp2;refine bodyPost_ret (Oc Tryz.results124 rfl (q2w (KB.new2 w _ k.obj k.kind k.off _))) rfl ?_;exact⟨rfl,(Ql).alloc (by simp) _⟩
theorem q2g (k:Kd)(a:Int)(w:WD) :
  Calls prog 127 #[.agg #[.int .i64 k.obj,.int .i64 k.kind,.int .i64 k.off,.int .i64 a]] w λe w'=>e=.returned (.agg #[.int .i64 k.obj,.int .i64 k.kind,.int .i64 k.off])/\Below w.1.size w w':=by
 go_enter func127,ntmps127
 go_wp2;refine bodyPost_ret (Oc Tryz.results127 rfl (q2w (KB.new2 w _ k.obj k.kind k.off _))) rfl ?_;exact⟨rfl,(Ql).alloc (by simp) _⟩
theorem qbj (k:Kd)(B:OA)(m d:Nat)(r:Bool)(h:decide (m<=28)=r)(w:WD) :
  Calls prog 151 #[.agg #[.int .i64 k.obj,.int .i64 k.kind,.int .i64 k.off,.slice B m d]] w λe w'=>e=.returned (.bool r)/\Below w.1.size w w':=by
 go_enter func151,ntmps151
 go_wp2;go_ret;refine⟨?_,Ql⟩;rw[<-h];exact congrArg (λx=>Ending.returned (Value.bool x)) (decide_eq_decide.2 (by omega))
theorem qbk (k:Kd)(a:Int)(r:Bool)(h:decide (1<=a/\a<=2047)=r)(w:WD) :
  Calls prog 154 #[.agg #[.int .i64 k.obj,.int .i64 k.kind,.int .i64 k.off,.int .i64 a]] w λe w'=>e=.returned (.bool r)/\Below w.1.size w w':=by
 go_enter func154,ntmps154
 go_wp2_with fail
 refine (q2y a 1 2047 r h _).mono ?_;rintro e f ⟨rfl,rfl⟩;go_wp2;go_ret;exact⟨rfl,Ql⟩
theorem NB.range {w:WD}{b:Nat}{l:Int}{A B:OA}{n c m d:Nat}(H:NB w b l A n c B m d):w.rangeAt b 0 [.int .i64 l,.slice A n c,.slice B m d]:=λj v f=>by
 obtain⟨t,H⟩:=H;rw[cell_of_row _ _ _ _ _ _ H,AT];simpa using f
theorem Ik {w:WD}{b:Nat}{l:Int}{A B:OA}{n c m d:Nat}(H:NB w b l A n c B m d):(loadVar 108 ⟨b,0,none⟩).run prog w=.ok (.agg #[.int .i64 l,.slice A n c,.slice B m d]) w:=
 run_loadVar_mid w b 0 108 _ _ H.range underlying108 rfl (by kernel_rfl)
theorem NB.new2 (w:WD)(o:Obj)(l:Int)(A:OA)(n c:Nat)(B:OA)(m d:Nat)(t:TypeId):NB ((w.alloc o).alloc (.cells #[.int .i64 l,.slice A n c,.slice B m d] t)) (w.1.size+1) l A n c B m d:=by
 have:=NB.new (w.alloc o) l A n c B m d t;rwa [BH] at this
def Nd.few (N:Nd):Nd:=⟨N.lvl,N.items.take 20,N.kids.take 20⟩
def Nd.least (N:Nd):Kd:=if N.keys.length=0 then ⟨0,0,0⟩ else keyAt N.keys 0
def lead (ks:List Kd)(k:Kd):Nat:=(ks.takeWhile λx=>x.less k).length
def lastTo (ks:List Kd)(k:Kd):Nat->Nat
 |0=>0
 |j+1=>if k.less (keyAt ks j)=true then lastTo ks k j else j
def Uf (ks:List Kd)(k:Kd)(i:Nat):Bool:=decide (i<ks.length)&&(keyAt ks i).same k
def Nd.Zo (N:Nd)(k:Kd):Nat:=if N.lvl=0 then lead N.keys k else lastTo N.keys k N.keys.length
theorem qbl (ks:List Kd)(k:Kd):lead ks k<=ks.length:=by
 unfold lead;induction ks with
 |nil=>simp
 |cons x ks ih=>rw[List.takeWhile_cons];split<;>simp<;>omega
theorem qj3:∀(f:List Kd) (k:Kd) (j:Nat),(∀q,q<j->(keyAt f q).less k=true)->j<=f.length->(j=f.length\/(keyAt f j).less k=false)->lead f k=j
 |[],k,j,_,h2,_=>by simp at h2;subst h2;rfl
 |x::f,k,0,_,_,h3=>by
  rcases h3 with h|h
  ·simp at h
  ·have h:x.less k=false:=h;unfold lead;rw[List.takeWhile_cons,h];rfl
 |x::f,k,j+1,h1,h2,h3=>by
  have h0:x.less k=true:=h1 0 (by omega);have:=qj3 f k j (λq g=>h1 (q+1) (by omega)) (by simpa using h2) (by
   rcases h3 with h|h
   ·left;simpa using h
   ·right;exact h)
  unfold lead at this ⊢;rw[List.takeWhile_cons,h0];simpa using this
theorem qbm (ks:List Kd)(k:Kd)(j:Nat):lastTo ks k j=0\/lastTo ks k j<j:=by
 induction j with
 |zero=>left;rfl
 |succ j ih=>unfold lastTo;split<;>omega
section
variable {P:Program}{t e:TypeId}{s b:Nat}{z:Value}(w:WD)
end
theorem Qa8:Az prog 30 3 1 8 (.int .i64 0):=⟨underlying30,by kernel_rfl,rfl,by omega⟩
def iv (z:Int):LV:=[.int .i64 z]
def Qco (w:WD)(A:OA)(n c:Nat)(zs:LI):Prop:=Jy w 1 A n c (zs.map iv)
theorem qf2 (w:WD)(x:Int):Jy (w.alloc (.cells #[.int .i64 x] 3)) 1 (some ⟨w.1.size,0,none⟩) 1 1 [iv x]:=(q1n w 3 1 (iv x) _ rfl rfl).Um (by omega)
theorem qrz (x:Int):∀y∈[iv x],∀u∈y,u.oneCell'=true:=by
 intro y g u f;obtain rfl:y=iv x:=by simpa using g
 simp[iv] at f;subst f;rfl
def Ky (x:Qb):Option Int:=if x.k.kind=3/\x.v.length=3/\Xr x.v 0=1 then some (256*(Xr x.v 1:Int)+(Xr x.v 2:Int)) else none
def Nd.named (N:Nd):LI:=N.kids.map (·.a)++N.items.filterMap Ky
def Ul (N:Nd)(j:Nat):List (LV):=((N.kids.take j).map (·.a)).map iv
def Xw (N:Nd)(j:Nat):List (LV):=(N.kids.map (·.a)++(N.items.take j).filterMap Ky).map iv
theorem qj4 (N:Nd)(j:Nat)(h:j<N.kids.length):Ul N (j+1)=Ul N j++[iv (Qi N.kids j).a]:=by
 unfold Ul;rw[List.take_succ_eq_append_getElem h,List.map_append,List.map_append];have:=q16 h;rw[AC h] at this;rw[OI this];rfl
theorem qdk (N:Nd):Ul N N.kids.length=Xw N 0:=by
 unfold Ul Xw;rw[List.take_length];simp
theorem qnm (N:Nd)(j:Nat)(h:j<N.items.length)(x:Int)(f:Ky (Qu N.items j)=some x):Xw N (j+1)=Xw N j++[iv x]:=by
 unfold Xw;have:=Et h;rw[AC h] at this;rw[List.take_succ_eq_append_getElem h,OI this,List.filterMap_append,<-AM,List.map_append];simp[f]
theorem qs0 (N:Nd)(j:Nat)(h:j<N.items.length)(f:Ky (Qu N.items j)=none):Xw N (j+1)=Xw N j:=by
 unfold Xw;have:=Et h;rw[AC h] at this;rw[List.take_succ_eq_append_getElem h,OI this,List.filterMap_append];simp[f]
theorem qdl (N:Nd):Xw N N.items.length=N.named.map iv:=by
 unfold Xw Nd.named;rw[List.take_length]
def sumTo:Nat->(Nat->Nat)->Nat
 |0,_=>0
 |n+1,f=>sumTo n f+f n
theorem q6f {f g:Nat->Nat}:∀{n:Nat},(∀b,b<n->f b=g b)->sumTo n f=sumTo n g
 |0,_=>rfl
 |n+1,h=>by
  unfold sumTo;rw[q6f (n:=n) (λb p=>h b (by omega)),h n (by omega)]
theorem qdm {f:Nat->Nat}:∀{n:Nat},(∀b,b<n->f b=0)->sumTo n f=0
 |0,_=>rfl
 |n+1,h=>by
  unfold sumTo;rw[qdm (n:=n) (λb g=>h b (by omega)),h n (by omega)]
theorem qh9 {f g:Nat->Nat}{i:Nat}:∀{n:Nat},(∀b,b<n->b≠i->f b=g b)->i<n->sumTo n g+f i=sumTo n f+g i
 |0,_,hi=>by omega
 |n+1,h,hi=>by
  unfold sumTo;by_cases e:i=n
  ·subst e;rw[q6f (n:=i) (λb p=>h b (by omega) (by omega))];omega
  ·have:=qh9 (n:=n) (λb p hn=>h b (by omega) hn) (by omega);have:=h n (by omega) (by omega);omega
theorem qha {f:Nat->Nat}:∀{n:Nat},0<sumTo n f->∃b,b<n/\0<f b
 |0,h=>by cases h
 |n+1,h=>by
  unfold sumTo at h;by_cases e:0<f n
  ·exact⟨n,by omega,e⟩
  ·obtain⟨b,h1,h2⟩:=qha (n:=n) (f:=f) (by omega);exact⟨b,by omega,h2⟩
theorem qf3 {f:Nat->Nat}{i:Nat}:∀{n:Nat},i<n->f i<=sumTo n f
 |0,h=>by omega
 |n+1,h=>by
  unfold sumTo;by_cases e:i=n
  ·subst e;omega
  ·have:=qf3 (f:=f) (n:=n) (i:=i) (by omega);omega
def refs (K:Nat->LI)(most:Nat)(out:Nat->Nat)(a:Nat):Nat:=sumTo most λb=>if 1<=out b then (K b).count (a:Int) else 0
structure Qck (K:Nat->LI)(roots:LI)(most:Nat)(out:Nat->Nat)(todo:LI):Prop where
 zero:out 0=0
 eq:∀a:Nat,0<a->a<most->out a+todo.count (a:Int)=roots.count (a:Int)+refs K most out a
structure J3 (n:Nat)(cnt:Nat->Nat)(K:Nat->LI)(H:LI):Prop where
 eq:∀a:Nat,0<a->a<n->cnt a=H.count (a:Int)+refs K n cnt a
section
variable {n:Nat}{cnt:Nat->Nat}{K:Nat->LI}{H:LI}
theorem J3.perm (h:J3 n cnt K H){H':LI}(hH:∀a:Nat,0<a->a<n->H'.count (a:Int)=H.count (a:Int)):J3 n cnt K H':=
 ⟨λa h1 h2=>by rw[hH a h1 h2];exact h.eq a h1 h2⟩
theorem q8c {K K':Nat->LI}{cnt cnt':Nat->Nat}{n a:Nat}(h:∀b,b<n->(1<=cnt b↔1<=cnt' b)/\(1<=cnt b->K' b=K b)):refs K' n cnt' a=refs K n cnt a:=
 q6f λb g=>by
  obtain⟨h1,h2⟩:=h b g;by_cases e:1<=cnt b
  ·rw[AA e,AA (h1.1 e),h2 e]
  ·rw[AB e,AB (λf=>e (h1.2 f))]
theorem J3.same (h:J3 n cnt K H){cnt':Nat->Nat}{K':Nat->LI}(hc:∀b,b<n->cnt' b=cnt b)(hK:∀b,b<n->1<=cnt b->K' b=K b):J3 n cnt' K' H:=
 ⟨λa h1 h2=>by
  rw[hc a h2,h.eq a h1 h2];congr 1
  exact (q8c λb f=>⟨by rw[hc b f],hK b f⟩).symm⟩
theorem qj5 {K K':Nat->LI}{cnt cnt':Nat->Nat}{n i a:Nat}(hi:i<n)(y:∀b,b<n->b≠i->cnt' b=cnt b)(u:∀b,b<n->b≠i->K' b=K b) :
  refs K' n cnt' a+(if 1<=cnt i then (K i).count (a:Int) else 0)=refs K n cnt a+(if 1<=cnt' i then (K' i).count (a:Int) else 0):=
 qh9 (f:=λb=>if 1<=cnt b then (K b).count (a:Int) else 0) (g:=λb=>if 1<=cnt' b then (K' b).count (a:Int) else 0)
  (λb p hn=>by
   show (if 1<=cnt b then (K b).count (a:Int) else 0)=(if 1<=cnt' b then (K' b).count (a:Int) else 0);rw[y b p hn,u b p hn]) hi
theorem J3.put (h:J3 n cnt K H){c:Nat}{ks H0:LI}{cnt':Nat->Nat}{K':Nat->LI}(hc0:0<c)(hc:c<n)(hz:cnt c=0)(hH:∀a:Nat,0<a->a<n->H.count (a:Int)=ks.count (a:Int)+H0.count (a:Int))
  (h1:cnt' c=1) (h2:∀b,b<n->b≠c->cnt' b=cnt b) (h3:K' c=ks) (h4:∀b,b<n->b≠c->K' b=K b):J3 n cnt' K' ((c:Int)::H0):=by
 refine⟨λa f g=>?_⟩;have u:=qj5 (a:=a) hc h2 h4;rw[AB (show ¬1<=cnt c by omega),AA (show 1<=cnt' c by omega),h3] at u;have y:=h.eq a f g;have D:=hH a f g;rw[List.count_cons];by_cases e:a=c
 ·subst e;rw[AA (by simp),h1];omega
 ·rw[AB (by intro p;have:=eq_of_beq p;omega),h2 a g e];omega
theorem J3.ref (h:J3 n cnt K H){c:Nat}{cnt':Nat->Nat}(hc:1<=cnt c)(h1:cnt' c=cnt c+1)(h2:∀b,b<n->b≠c->cnt' b=cnt b):J3 n cnt' K ((c:Int)::H):=by
 refine⟨λa f g=>?_⟩;have y:refs K n cnt' a=refs K n cnt a:=q8c λb u=>⟨by
  by_cases e:b=c
  ·subst e;omega
  ·rw[h2 b u e],λ_=>rfl⟩
 have D:=h.eq a f g;rw[List.count_cons,y];by_cases e:a=c
 ·subst e;rw[AA (by simp),h1];omega
 ·rw[AB (by intro p;have:=eq_of_beq p;omega),h2 a g e];omega
theorem J3.Qp (h:J3 n cnt K H){c:Nat}{H0:LI}{cnt':Nat->Nat}(hH:∀a:Nat,0<a->a<n->H.count (a:Int)=((c:Int)::H0).count (a:Int))(hc:2<=cnt c)(h1:cnt' c+1=cnt c)(h2:∀b,b<n->b≠c->cnt' b=cnt b):J3 n cnt' K H0:=by
 refine⟨λa f g=>?_⟩;have D:refs K n cnt' a=refs K n cnt a:=q8c λb y=>⟨by
  by_cases e:b=c
  ·subst e;omega
  ·rw[h2 b y e],λ_=>rfl⟩
 have E:=h.eq a f g;have p:=hH a f g;rw[List.count_cons] at p;rw[D];by_cases e:a=c
 ·subst e;rw[AA (by simp)] at p;omega
 ·rw[AB (by intro u;have:=eq_of_beq u;omega)] at p;rw[h2 a g e];omega
theorem J3.last (h:J3 n cnt K H){c:Nat}{H0:LI}{cnt':Nat->Nat}(hc0:0<c)(hcn:c<n)(hH:∀a:Nat,0<a->a<n->H.count (a:Int)=((c:Int)::H0).count (a:Int))(hc:cnt c=1)(h1:cnt' c=0)(h2:∀b,b<n->b≠c->cnt' b=cnt b):J3 n cnt' K (K c++H0):=by
 refine⟨λa f g=>?_⟩;have y:=qj5 (a:=a) (K:=K) (K':=K) hcn h2 (λ_ _ _=>rfl);rw[AA (show 1<=cnt c by omega),AB (show ¬1<=cnt' c by omega)] at y;have D:=h.eq a f g;have p:=hH a f g;rw[List.count_cons] at p;rw[A_];by_cases e:a=c
 ·subst e;rw[AA (by simp)] at p;omega
 ·rw[AB (by intro u;have:=eq_of_beq u;omega)] at p;rw[h2 a g e];omega
theorem J3.set (h:J3 n cnt K H){c:Nat}{ks H0:LI}{K':Nat->LI}(hcn:c<n)(hc:1<=cnt c)(hH:∀a:Nat,0<a->a<n->H.count (a:Int)=ks.count (a:Int)+H0.count (a:Int))(h3:K' c=ks)(h4:∀b,b<n->b≠c->K' b=K b):J3 n cnt K' (K c++H0):=by
 refine⟨λa f g=>?_⟩;have p:=qj5 (a:=a) (cnt:=cnt) (cnt':=cnt) hcn (λ_ _ _=>rfl) h4;rw[AA hc,AA hc,h3] at p;have u:=h.eq a f g;have y:=hH a f g;rw[A_];omega
theorem J3.named (h:J3 n cnt K H){b c:Nat}(hc0:0<c)(hcn:c<n)(hb:b<n)(h1:1<=cnt b)(hm:(c:Int)∈K b):1<=cnt c:=by
 have h2:=h.eq c hc0 hcn;have g:=qf3 (f:=λb=>if 1<=cnt b then (K b).count (c:Int) else 0) hb;have p:0<(K b).count (c:Int):=List.count_pos_iff.2 hm;rw[AA h1] at g;have e:refs K n cnt c=sumTo n λb=>if 1<=cnt b then (K b).count (c:Int) else 0:=rfl
 omega
theorem J3.by_ (h:J3 n cnt K H){c:Nat}(hc0:0<c)(hcn:c<n)(h1:1<=cnt c):(c:Int)∈H\/∃b,b<n/\1<=cnt b/\(c:Int)∈K b:=by
 have h2:=h.eq c hc0 hcn;by_cases e:0<H.count (c:Int)
 ·exact .inl (List.count_pos_iff.1 e)
 ·obtain⟨b,u,g⟩:=qha (f:=λb=>if 1<=cnt b then (K b).count (c:Int) else 0) (n:=n) (by
   have e:refs K n cnt c=sumTo n λb=>if 1<=cnt b then (K b).count (c:Int) else 0:=rfl
   omega)
  have g:0<(if 1<=cnt b then (K b).count (c:Int) else 0):=g;by_cases p:1<=cnt b
  ·rw[AA p] at g;exact .inr ⟨b,u,p,List.count_pos_iff.1 g⟩
  ·rw[AB p] at g
   cases g
theorem J3.reached (h:J3 n cnt K H){B:Nat}(Nw:Nat->Nat)(hlev:∀b a:Nat,b<n->1<=cnt b->(a:Int)∈K b->Nw a<Nw b)(hB:∀b,Nw b<=B)(h0:cnt 0=0){S:NP}(hS:∀a:Nat,0<a->a<n->(a:Int)∈H->S a)
  (hK:∀b a:Nat,0<b->b<n->0<a->a<n->1<=cnt b->S b->(a:Int)∈K b->S a):∀L a,B-Nw a<=L->0<a->a<n->1<=cnt a->S a:=by
 intro L;induction L using Nat.strongRecOn with
 |ind L ih=>
  intro a G f y h1;rcases h.by_ f y h1 with h2|⟨b,D,g,u⟩
  ·exact hS a f y h2
  ·have E:=hlev b a D g u;have F:=hB b;have p:0<b:=by
    rcases Nat.eq_zero_or_pos b with e|e
    ·subst e;omega
    ·exact e
   exact hK b a p D f y g (ih (B-Nw b) (by omega) b (AE _) p D g) u
end
theorem q8d (ks:List Kd)(k:Kd):∀j,0<lastTo ks k j->k.less (keyAt ks (lastTo ks k j))=false
 |0,h=>by cases h
 |j+1,h=>by
  unfold lastTo at h ⊢;by_cases f:k.less (keyAt ks j)=true
  ·rw[AA f] at h ⊢;exact q8d ks k j h
  ·rw[AB f];simpa using f
theorem q8x (ks:List Kd)(k:Kd):∀j q,lastTo ks k j<q->q<j->k.less (keyAt ks q)=true
 |0,q,_,h=>by cases h
 |j+1,q,h,hq=>by
  unfold lastTo at h;by_cases f:k.less (keyAt ks j)=true
  ·rw[AA f] at h;rcases (by omega:q<j\/q=j) with h1|rfl
   ·exact q8x ks k j q h h1
   ·exact f
  ·rw[AB f] at h;omega
theorem q6g:∀(f:List Kd) (k:Kd) (q:Nat),q<lead f k->(keyAt f q).less k=true
 |[],k,q,h=>by cases h
 |x::f,k,q,h=>by
  unfold lead at h;rw[List.takeWhile_cons] at h;by_cases g:x.less k=true
  ·rw[AA g] at h;match q with
   |0=>exact g
   |q+1=>exact q6g f k q (by unfold lead;simpa using h)
  ·rw[AB g] at h
   cases h
theorem qbn:∀(f:List Kd) (k:Kd),lead f k<f.length->(keyAt f (lead f k)).less k=false
 |[],k,h=>by cases h
 |x::f,k,h=>by
  unfold lead at h ⊢;rw[List.takeWhile_cons] at h ⊢;by_cases g:x.less k=true
  ·rw[AA g] at h ⊢;exact qbn f k (by unfold lead;simpa using h)
  ·rw[AB g];show x.less k=false;simpa using g
def Qg (its:List Qb):Prop:=its.Pairwise λx y=>x.k.less y.k=true
def Qm (R:Int->Nd × Int):Nat->Int->List Qb->Prop
 |0,a,its=>R a=(⟨0,its,[]⟩,0)/\its≠[]
 |l+1,a,its=>∃(kids:List Qk) (parts:List (List Qb)),R a=(⟨((l+1:Nat):Int),[],kids⟩,0)/\kids≠[]/\parts.length=kids.length/\its=parts.flatten/\∀j,j<kids.length->Qm R l (Qi kids j).a (parts.getD j [])/\∃x r,parts.getD j []=x::r/\(Qi kids j).k=x.k
def valOf (its:List Qb)(k:Kd):Option (LU):=(its.find? λx=>x.k.same k).map (·.v)
theorem q7b {a b k:Kd}(h:b.same k=true):a.less k=a.less b:=by
 rw[Kd.same_iff] at h;obtain⟨h1,h2,f⟩:=h;unfold Kd.less;rw[h1,h2,f]
theorem q7c {a b k:Kd}(h:b.same k=true):k.less a=b.less a:=by
 rw[Kd.same_iff] at h;obtain⟨h1,h2,f⟩:=h;unfold Kd.less;rw[h1,h2,f]
theorem qhb {a b:Kd}(h:a.less b=true):b.less a=false:=by
 rcases Kd.total a b with⟨_,h2,_⟩|⟨h1,_,_⟩|⟨h1,_,_⟩
 ·exact h2
 ·rw[h] at h1;cases h1
 ·rw[h] at h1;cases h1
theorem q5r (a:Kd):a.less a=false:=by
 rcases Kd.total a a with⟨h1,h2,f⟩|⟨_,_,f⟩|⟨h1,_,_⟩
 ·exact absurd rfl f
 ·exact absurd rfl f
 ·exact h1
theorem qdn {a b c:Kd}(h1:a.less b=true)(h2:c.less b=false):a.less c=true:=by
 rcases Kd.total b c with⟨f,_,_⟩|⟨_,f,_⟩|⟨_,_,rfl⟩
 ·exact Kd.trans a b c h1 f
 ·rw[h2] at f;cases f
 ·exact h1
theorem getD_cons_succ {α:Type}(x:α)(l:List α)(d:α)(j:Nat):(x::l).getD (j+1) d=l.getD j d:=by
 rw[AG,AG,List.getElem?_cons_succ]
theorem q8e {parts:List (List Qb)}(h:Qg parts.flatten){i j:Nat}(f:i<j)(g:j<parts.length){x y:Qb}(p:x∈parts.getD i [])(u:y∈parts.getD j []):x.k.less y.k=true:=by
 unfold Qg at h;rw[List.pairwise_flatten] at h;have h2:=List.pairwise_iff_getElem.1 h.2 i j (by omega) g f;rw[AG,AC (by omega)] at p;rw[AG,AC g] at u;exact h2 x p y u
theorem qdo {parts:List (List Qb)}(h:Qg parts.flatten)(j:Nat):Qg (parts.getD j []):=by
 unfold Qg at h ⊢;rw[List.pairwise_flatten] at h;rw[AG];by_cases f:j<parts.length
 ·rw[AC f];exact h.1 _ (List.getElem_mem f)
 ·rw[List.getElem?_eq_none (by omega)];exact List.Pairwise.nil
theorem q7d (l:Int)(kids:List Qk):(⟨l,[],kids⟩:Nd).keys=kids.map (·.k):=rfl
theorem q2p (its:List Qb):(⟨0,its,[]⟩:Nd).keys=its.map (·.k):=by unfold Nd.keys;simp
theorem qbo (kids:List Qk){j:Nat}(f:j<kids.length):keyAt (kids.map (·.k)) j=(Qi kids j).k:=by
 unfold keyAt Qi;rw[AG,AG,BA,AC f];rfl
theorem q18 (its:List Qb){j:Nat}(f:j<its.length):keyAt (its.map (·.k)) j=(Qu its j).k:=by
 unfold keyAt Qu;rw[AG,AG,BA,AC f];rfl
theorem qvb {its:List Qb}(O:Qg its)(k:Kd):valOf its k=if Uf (its.map (·.k)) k (lead (its.map (·.k)) k)=true then some (Qu its (lead (its.map (·.k)) k)).v else none:=by
 obtain⟨j,D⟩:∃j,lead (its.map (·.k)) k=j:=⟨_,rfl⟩;have M:j<=its.length:=by have:=qbl (its.map (·.k)) k;rw[AF] at this;omega
 rw[D];have J:∀q,q<j->(Qu its q).k.less k=true:=λq p=>by
  have:=q6g (its.map (·.k)) k q (by omega);rwa [q18 its (by omega)] at this
 have f:∀q (p:q<its.length),q≠j\/(Qu its j).k.same k=false->(its[q]).k.same k=false:=λq p E=>by
  have e:Qu its q=its[q]:=by unfold Qu;rw[AG,AC p];rfl
  cases u:(its[q]).k.same k with
  |false=>rfl
  |true=>
   rcases Nat.lt_trichotomy q j with h1|h1|h1
   ·have h2:=J q h1;rw[e,q7b u,q5r] at h2
    cases h2
   ·subst h1;rcases E with h2|h2
    ·exact absurd rfl h2
    ·rw[e,u] at h2;cases h2
   ·have G:(Qu its j).k.less k=false:=by
     have:=qbn (its.map (·.k)) k (by rw[D,AF];omega);rwa [D,q18 its (by omega)] at this
    have I:=List.pairwise_iff_getElem.1 O j q (by omega) p h1;have y:Qu its j=its[j]'(by omega):=by unfold Qu;rw[AG,AC (by omega)];rfl
    rw[y,q7b u,I] at G
    cases G
 unfold valOf Uf;rw[AF];by_cases g:j<its.length
 ·rw[AL g,Bool.true_and,q18 its g];have y:Qu its j=its[j]:=by unfold Qu;rw[AG,AC g];rfl
  cases u:(Qu its j).k.same k with
  |true=>
   rw[AA rfl];have:its.find? (λx=>x.k.same k)=some its[j]:=by
    rw[List.find?_eq_some_iff_getElem];refine⟨by rw[<-y];exact u,j,g,rfl,λq p=>?_⟩;rw[f q (by omega) (.inl (by omega))];rfl
   rw[this,y];rfl
  |false=>
   have:its.find? (λx=>x.k.same k)=none:=by
    rw[List.find?_eq_none];intro x F;obtain⟨q,p,e⟩:=List.getElem_of_mem F;rw[<-e,f q p (.inr u)];simp
   rw[this];rfl
 ·rw[AH g,Bool.false_and];have:its.find? (λx=>x.k.same k)=none:=by
   rw[List.find?_eq_none];intro x F;obtain⟨q,p,e⟩:=List.getElem_of_mem F;rw[<-e,f q p (.inl (by omega))];simp
  rw[this];rfl
theorem q7e {R:Int->Nd × Int}:∀{l:Nat} {a:Int} {its:List Qb},Qm R l a its->∃x r,its=x::r
 |0,a,its,h=>by
  match its,h.2 with
  |x::r,_=>exact⟨x,r,rfl⟩
 |l+1,a,its,h=>by
  obtain⟨kids,parts,_,h2,f,rfl,u⟩:=h;have g:0<kids.length:=List.length_pos_iff.2 h2;obtain⟨_,x,r,e,_⟩:=u 0 g;match parts,f with
  |[],f=>rw[<-f] at g;cases g
  |p::ps,_=>
   have e:p=x::r:=e;exact⟨x,r++ps.flatten,by rw[List.flatten_cons,e];rfl⟩
def within (fr «to»:Kd)(its:List Qb):List Qb:=its.filter λx=>!x.k.less fr&&!«to».less x.k
def Ya (f:Int->List Qb->List Qb × Int)(«to»:Kd)(most:Nat):List Qk->List Qb->List Qb × Int
 |[],acc=>(acc,0)
 |x::r,acc=>if «to».less x.k=true\/most<=acc.length then (acc,0) else if (f x.a acc).2≠0 then ([],(f x.a acc).2) else Ya f «to» most r (f x.a acc).1
def Jo (R:Int->Nd × Int)(fr «to»:Kd)(most:Nat):Nat->Int->List Qb->List Qb × Int
 |0,a,acc=>if (R a).2≠0 then ([],(R a).2) else if (R a).1.lvl≠0 then ([],5) else ((acc++within fr «to» (R a).1.items).take most,0)
 |l+1,a,acc=>if (R a).2≠0 then ([],(R a).2) else if (R a).1.lvl≠((l+1:Nat):Int) then ([],5) else Ya (Jo R fr «to» most l) «to» most ((R a).1.kids.drop ((R a).1.Zo fr)) acc
theorem q4f {fr «to»:Kd}{its:List Qb}(h:∀x∈its,x.k.less fr=true\/«to».less x.k=true):within fr «to» its=[]:=by
 unfold within;rw[List.filter_eq_nil_iff];intro x f;rcases h x f with e|e<;>simp[e]
theorem q4g {α:Type}{a b:List α}{m:Nat}(h:m<=a.length):(a++b).take m=a.take m:=by
 rw[List.take_append,Nat.sub_eq_zero_of_le h,List.take_zero,BM]
theorem q8y {α:Type}(a b:List α)(m:Nat):(a.take m++b).take m=(a++b).take m:=by
 by_cases h:m<=a.length
 ·rw[q4g h,q4g (by rw[AR];omega),List.take_take,Nat.min_self]
 ·rw[AN (l:=a) (by omega)]
theorem qhc {f:Int->List Qb->List Qb × Int}{fr «to»:Kd}{most:Nat}:∀(kids:List Qk) (parts:List (List Qb)) (g:List Qb),parts.length=kids.length->g.length<=most->Qg parts.flatten->
  (∀j,j<kids.length->(∀g:List Qb,g.length<=most->f (Qi kids j).a g=((g++within fr «to» (parts.getD j [])).take most,0))/\∃x r,parts.getD j []=x::r/\(Qi kids j).k=x.k)->
  Ya f «to» most kids g=((g++within fr «to» parts.flatten).take most,0)
 |[],parts,g,hl,ha,_,_=>by
  obtain rfl:parts=[]:=List.length_eq_zero_iff.1 hl;unfold Ya;rw[List.flatten_nil,show within fr «to» []=[] from rfl,BM,AN ha]
 |x::kids,[],g,hl,_,_,_=>by simp at hl
 |x::kids,p::parts,g,hl,ha,hr,h=>by
  obtain⟨h0,y,r,F,G⟩:=h 0 (by rw[AX];omega);have F:p=y::r:=F;have G:x.k=y.k:=G;have h0:∀g:List Qb,g.length<=most->f x.a g=((g++within fr «to» p).take most,0):=h0;unfold Ya;by_cases D:«to».less x.k=true
  ·rw[AA (.inl D)];have:within fr «to» (p::parts).flatten=[]:=q4f λz E=>.inr (by
    have u:z=y\/y.k.less z.k=true:=by
     rw[List.flatten_cons,F,List.cons_append] at E hr;rcases List.mem_cons.1 E with rfl|E
     ·exact .inl rfl
     ·exact .inr ((List.pairwise_cons.1 hr).1 z E)
    rw[G] at D;rcases u with rfl|u
    ·exact D
    ·exact Kd.trans _ _ _ D u)
   rw[this,BM,AN ha]
  ·by_cases hm:most<=g.length
   ·rw[AA (.inr hm),q4g hm,AN ha]
   ·rw[AB (by rintro (h|h);exact D h;exact hm h),h0 g ha];dsimp only;rw[AB (by simp),qhc kids parts _ (by simpa using hl) (by rw[AR];omega) (by
     rw[List.flatten_cons] at hr;exact (List.pairwise_append.1 hr).2.1) λj O=>?_]
    ·have:within fr «to» (p::parts).flatten=within fr «to» p++within fr «to» parts.flatten:=by unfold within;rw[List.flatten_cons,List.filter_append]
     rw[this,q8y,AM]
    ·obtain⟨h1,z,s,I,J⟩:=h (j+1) (by rw[AX];omega);rw[getD_cons_succ] at h1 I;have M:Qi (x::kids) (j+1)=Qi kids j:=by unfold Qi;rw[getD_cons_succ]
     rw[M] at h1 J;exact⟨h1,z,s,I,J⟩
theorem qhd {α:Type}(l:List α)(n j:Nat)(d:α):(l.drop n).getD j d=l.getD (n+j) d:=by
 rw[AG,AG,List.getElem?_drop]
theorem qdp {R:Int->Nd × Int}(fr «to»:Kd)(most:Nat):∀(l:Nat) (a:Int) (its f:List Qb),Qm R l a its->Qg its->f.length<=most->Jo R fr «to» most l a f=((f++within fr «to» its).take most,0)
 |0,a,its,f,h,hr,D=>by
  obtain⟨h1,_⟩:=h;unfold Jo;rw[h1];dsimp only;rw[AB (by simp),AB (by simp)]
 |l+1,a,its,f,h,hr,D=>by
  obtain⟨kids,parts,h1,h2,T,rfl,O⟩:=h;have Z:(⟨((l+1:Nat):Int),[],kids⟩:Nd).Zo fr=lastTo (kids.map (·.k)) fr kids.length:=by
   unfold Nd.Zo;have:¬((l+1:Nat):Int)=0:=by omega
   dsimp only;rw[AB this,q7d,AF]
  obtain⟨n,hn⟩:∃n,lastTo (kids.map (·.k)) fr kids.length=n:=⟨_,rfl⟩;have hl:0<kids.length:=List.length_pos_iff.2 h2;have y:n<kids.length:=by
   rcases qbm (kids.map (·.k)) fr kids.length with e|e<;>omega
  unfold Jo;rw[h1];dsimp only;rw[AB (by simp),AB (by simp),Z,hn];have g:parts.flatten=(parts.take n).flatten++(parts.drop n).flatten:=by rw[<-List.flatten_append,AV]
  have u:within fr «to» (parts.take n).flatten=[]:=q4f λx hx=>.inl (by
   obtain⟨p,X,J⟩:=List.mem_flatten.1 hx;obtain⟨q,Y,e⟩:=List.getElem_of_mem X;have I:q<n:=by rw[AR] at Y;omega
   have M:x∈parts.getD q []:=by
    rw[List.getElem_take] at e;rw[AG,AC (by omega),e];exact J
   obtain⟨_,z,s,E,F⟩:=O n y;have G:x.k.less z.k=true:=q8e hr I (by omega) M (by rw[E];exact AP ..);have U:fr.less z.k=false:=by
    have:=q8d (kids.map (·.k)) fr kids.length (by omega);rw[hn,qbo kids y,F] at this;exact this
   exact qdn G U)
  have hw:within fr «to» parts.flatten=within fr «to» (parts.drop n).flatten:=by
   have:within fr «to» parts.flatten=within fr «to» (parts.take n).flatten++within fr «to» (parts.drop n).flatten:=by
    conv=>lhs;rw[g]
    unfold within;rw[List.filter_append]
   rw[this,u,BG]
  rw[hw];refine qhc (kids.drop n) (parts.drop n) f (by rw[AS,AS,T]) D ?_ λj W=>?_
  ·rw[g] at hr;exact (List.pairwise_append.1 hr).2.1
  ·rw[AS] at W;have Q:Qi (kids.drop n) j=Qi kids (n+j):=by unfold Qi;rw[qhd]
   rw[Q,qhd];obtain⟨G,z,s,E,F⟩:=O (n+j) (by omega);exact⟨λf D=>qdp fr «to» most l _ _ f G (qdo hr (n+j)) D,z,s,E,F⟩
theorem qbp {f:Nat->Nat}{k:Nat}:∀{n:Nat},(∀b,b<n->f b<=k)->sumTo n f<=k*n
 |0,_=>AW _
 |n+1,h=>by
  unfold sumTo;have h1:=qbp (n:=n) (f:=f) (k:=k) (λb g=>h b (by omega));have h2:=h n (by omega);rw[Nat.mul_succ];omega
theorem qnn {K:Nat->LI}{most k:Nat}{out:Nat->Nat}(f:∀b,b<most->(K b).length<=k)(a:Nat):refs K most out a<=k*most:=
 qbp λb g=>by
  by_cases e:1<=out b
  ·rw[AA e];exact AZ List.count_le_length (f b g)
  ·rw[AB e];exact AW _
