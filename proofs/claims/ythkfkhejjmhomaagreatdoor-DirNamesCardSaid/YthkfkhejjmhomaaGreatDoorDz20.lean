/- Inode's fields as rows in memory: where each number lies, its width, what it may be; wheth -/
import Derived.Test.YthkfkhejjmhomaaGreatDoorDz3
import Derived.Test.YthkfkhejjmhomaaGreatDoorDz4
import Derived.Test.YthkfkhejjmhomaaGreatDoorDz7
import Derived.Deep.RegionHeld3
import Derived.BigRegion
import Derived.StillTailTactics
namespace Go.Proofs.YthkfkhejjmhomaaGreatDoor
open Go Go.RowKit Go.Proofs
set_option maxHeartbeats 4000000
set_option maxRecDepth 10000
structure Az where
 b:Nat
 o:Nat
 wid:Int
 lo:Int
 hi:Int
def Az.vs (f:Az):List Value:=[.pointer (some ⟨f.b,f.o,none⟩),.int .i64 f.wid,.int .i64 f.lo,.int .i64 f.hi]
def Qcy (w:World)(A:Option Addr)(n c:Nat)(fs:List Az):Prop:=Zg w 4 A n c (fs.map Az.vs)
def Nk (fs:List Az)(j:Nat):Az:=fs.getD j ⟨0,0,0,0,0⟩
section
variable {w w':World}{n c:Nat}{A:Option Addr}{fs:List Az}
theorem Qcy.len (h:Qcy w A n c fs):fs.length=n:=by have:=Zg.len h;simpa using this
theorem Qcy.bounds (h:Qcy w A n c fs):n<=c/\c<=maxLen:=⟨Zg.cap h,Zg.max h⟩
theorem Qcy.below (h:Qcy w A n c fs)(hb:Below w.1.size w w'):Qcy w' A n c fs:=Zg.below h hb
theorem Qcy.turn {b:Nat}(h:Qcy w A n c fs)(ht:Turn (λk=>k=b) w w')(hne:∀g o,A=some ⟨g,o,none⟩->g≠b):Qcy w' A n c fs:=
 Zg.keep h ht.size λg o d e=>ht.block g e (hne g o d)
theorem Qcy.cell (h:Qcy w A n c fs){j:Nat}(hj:j<n):∃g o,A=some ⟨g,o,none⟩/\g<w.1.size/\w.cell? ⟨g,o+j*4,none⟩=some (.pointer (some ⟨(Nk fs j).b,(Nk fs j).o,none⟩))/\
  w.cell? ⟨g,o+j*4+1,none⟩=some (.int .i64 (Nk fs j).wid)/\w.cell? ⟨g,o+j*4+2,none⟩=some (.int .i64 (Nk fs j).lo)/\w.cell? ⟨g,o+j*4+3,none⟩=some (.int .i64 (Nk fs j).hi):=by
 have m:j<fs.length:=by have:=h.len;omega
 obtain⟨g,o,rfl,f,_,d⟩:=Zg.at_ h hj;have e:(fs.map Az.vs).getD j []=(Nk fs j).vs:=by unfold Nk;simp[List.getD,m]
 rw[e] at d;exact⟨g,o,rfl,f,d 0 _ rfl,d 1 _ rfl,d 2 _ rfl,d 3 _ rfl⟩
end
def Nums (w:World)(fs:List Az)(x:Nat->Int):Prop:=∀j,j<fs.length->(Nk fs j).b<w.1.size/\w.cell? ⟨(Nk fs j).b,(Nk fs j).o,none⟩=some (.int .i64 (x j))
theorem Nums.below {w w':World}{fs:List Az}{x:Nat->Int}(h:Nums w fs x)(hb:Below w.1.size w w'):Nums w' fs x:=λj d=>by
 obtain⟨h1,h2⟩:=h j d;exact⟨Nat.lt_of_lt_of_le h1 hb.size,(hb.cell (p:=⟨_,_,none⟩) h1).trans h2⟩
def inF (f:Az)(x:Int):Bool:=decide (f.lo<=x/\x<=f.hi)
def Qho (fs:List Az)(x:Nat->Int):Bool:=(List.range fs.length).all λj=>inF (Nk fs j) (x j)
theorem Zcx {fs:List Az}{x:Nat->Int}{j:Nat}(d:j<fs.length)(h:inF (Nk fs j) (x j)=false):Qho fs x=false:=by
 unfold Qho;rw[List.all_eq_false];exact⟨j,List.mem_range.2 d,by rw[h];simp⟩
theorem Qzq {fs:List Az}{x:Nat->Int}(h:∀j,j<fs.length->inF (Nk fs j) (x j)=true):Qho fs x=true:=by
 unfold Qho;rw[List.all_eq_true];exact λj d=>h j (List.mem_range.1 d)
theorem Qc6 (x a b:Int)(r:Bool)(h:decide (a<=x/\x<=b)=r)(w:World) :
  Calls Tryz.prog 176 #[.int .i64 x,.int .i64 a,.int .i64 b] w λe w'=>e=.returned (.bool r)/\w=w':=by
 subst h;go_enter Tryz.func176,Tryz.ntmps176
 go_wp2;all_goals
  go_ret;refine⟨congrArg (λx=>Ending.returned (Value.bool x)) ?_,rfl⟩;first
   |exact (decide_eq_false (by omega)).symm
   |exact decide_eq_decide.2 (by omega)
   |(rw[Bool.eq_iff_iff];simp;omega)
theorem Qow (fs:List Az)(x:Nat->Int)(A:Option Addr)(n c:Nat)(w:World)(hF:Qcy w A n c fs)(Y:Nums w fs x) :
  Calls Tryz.prog 179 #[.slice A n c] w λe w'=>e=.returned (.bool (Qho fs x))/\Below w.1.size w w':=by
 have d:=Lib.hid hF.len;obtain⟨Z,R⟩:=hF.bounds;unfold maxLen at R;go_enter Tryz.func179,Tryz.ntmps179
 go_wp2_with fail
 go_loopw [7] (λi wr=>∃j:Nat,j<=n/\i=.int .i64 (j:Int)/\(∀q,q<j->inF (Nk fs q) (x q)=true)/\Below w.1.size w wr) (λi _=>n-(intOf i).toNat)
 case atStart=>exact⟨0,Nat.zero_le _,rfl,λq hq=>by omega,Below.refl _ _⟩
 case round=>
  obtain⟨j,hj,rfl,B,D⟩:=hrel;by_cases F:j<n
  ·obtain⟨g,o,X,hg,c0,c1,c2,c3⟩:=(hF.below D).cell F;subst X;obtain⟨H,M⟩:=Y j (by rw[d.out];exact F);have z:=λh=>Lib.hid (Zcx (fs:=fs) (x:=x) (by rw[d.out];exact F) h)
   obtain⟨f,T⟩:∃f,Nk fs j=f:=⟨_,rfl⟩;obtain⟨y,W⟩:∃y,x j=y:=⟨_,rfl⟩;rw[T] at c0 c1 c2 c3 H M z;rw[W] at M z;go_wp2_with fail
   have K:Below wr.1.size wr (wr.alloc (.cells #[.pointer (some ⟨f.b,f.o,none⟩),.int .i64 f.wid,.int .i64 f.lo,.int .i64 f.hi] 263)):=Ib;have J:(wr.alloc (.cells #[.pointer (some ⟨f.b,f.o,none⟩),.int .i64 f.wid,.int .i64 f.lo,.int .i64 f.hi] 263)).1[wr.1.size]?=some (.cells #[.pointer (some ⟨f.b,f.o,none⟩),.int .i64 f.wid,.int .i64 f.lo,.int .i64 f.hi] 263 (0,0)):=heap_alloc_new wr _;have P:wr.1.size<(wr.alloc (.cells #[.pointer (some ⟨f.b,f.o,none⟩),.int .i64 f.wid,.int .i64 f.lo,.int .i64 f.hi] 263)).1.size:=by simp
   generalize wr.alloc (.cells #[.pointer (some ⟨f.b,f.o,none⟩),.int .i64 f.wid,.int .i64 f.lo,.int .i64 f.hi] 263)=I at K J P ⊢;have q0:∀u:Grown I,u.to.cell? ⟨wr.1.size,0,none⟩=some (.pointer (some ⟨f.b,f.o,none⟩)):=Grown.cell (by rw[cell_of_row _ _ _ _ _ _ J];rfl) P;have q2:∀u:Grown I,u.to.cell? ⟨wr.1.size,2,none⟩=some (.int .i64 f.lo):=Grown.cell (by rw[cell_of_row _ _ _ _ _ _ J];rfl) P;have q3:∀u:Grown I,u.to.cell? ⟨wr.1.size,3,none⟩=some (.int .i64 f.hi):=Grown.cell (by rw[cell_of_row _ _ _ _ _ _ J];rfl) P;have U:f.b<I.1.size:=by have:=D.size;have:=K.size;omega
   have qx:∀u:Grown I,u.to.cell? ⟨f.b,f.o,none⟩=some (.int .i64 y):=Grown.cell ((K.cell (p:=⟨_,_,none⟩) (by have:=D.size;show f.b<_;omega)).trans ((D.cell (p:=⟨_,_,none⟩) H).trans M)) U;have m:=D.trans (K.mono D.size);have Hf:=Lib.hid T;have Hy:=Lib.hid W;clear c0 c1 c2 c3 J M T W
   cases O:inF f y
   ·have Q:=z O;refine Iq (by kernel_rfl) (by kernel_rfl) ?_;repeat (go_big_quiet_step (first
     |(go_at_call 176;exact Calls.Oh (Qc6 y f.lo f.hi false O _))
     |fail))
    refine wpQuiet_nil ?_;rintro _ ⟨u,rfl⟩;have E:=m.trans (u.ok.mono m.size);go_wp2;go_ret;exact⟨by rw[Q.out];rfl,E⟩
   ·clear z;refine Iq (by kernel_rfl) (by kernel_rfl) ?_;repeat (go_big_quiet_step (first
     |(go_at_call 176;exact Calls.Oh (Qc6 y f.lo f.hi true O _))
     |fail))
    refine wpQuiet_nil ?_;rintro _ ⟨u,rfl⟩;have E:=m.trans (u.ok.mono m.size);go_wp2;refine⟨⟨j+1,by omega,rfl,λq hq=>?_,E⟩,by simp[intOf];omega⟩;by_cases V:q=j
    ·rw[V,Hf.out,Hy.out];exact O
    ·exact B q (by omega)
  ·obtain rfl:j=n:=by omega
   have G:=Lib.hid (Qzq (fs:=fs) (x:=x) (by rw[d.out];exact B));go_wp2;go_ret;exact⟨by rw[G.out];rfl,D⟩
def Qjm (fs:List Az)(x:Nat->Int)(l:List UInt8):Nat->List UInt8
 |0=>l
 |k+1=>Qjm fs x l k++Zw (x k) (Nk fs k).wid.toNat
theorem Qpw {fs:List Az}{x:Nat->Int}{l:List UInt8}{n:Nat}(d:∀j,j<n->1<=(Nk fs j).wid/\(Nk fs j).wid<=7):∀k,k<=n->(Qjm fs x l k).length<=l.length+7*k
 |0,_=>by simp[Qjm]
 |k+1,hk=>by
  have:=Qpw (x:=x) (l:=l) d k (by omega);have:=d k (by omega);simp only[Qjm,List.length_append,Ye];omega
def IB (w:World)(b:Nat)(r:List Value):Prop:=∃t,w.1[b]?=some (.cells r.toArray t (0,0))
section
variable {w w':World}{b:Nat}{r:List Value}
theorem IB.new (w:World)(r:List Value)(t:TypeId):IB (w.alloc (.cells r.toArray t)) w.1.size r:=⟨t,heap_alloc_new w _⟩
theorem IB.keep (H:IB w b r)(h:w'.1[b]?=w.1[b]?):IB w' b r:=by
 obtain⟨t,H⟩:=H;exact⟨t,h.trans H⟩
theorem IB.below (H:IB w b r){B:Nat}(hb:Below B w w')(hB:b<B):IB w' b r:=H.keep (hb.block b hB)
theorem IB.lt (H:IB w b r):b<w.1.size:=by
 obtain⟨t,H⟩:=H;exact (Array.getElem?_eq_some_iff.1 H).1
theorem IB.cell (H:IB w b r)(j:Nat){v:Value}(hv:r[j]?=some v):w.cell? ⟨b,j,none⟩=some v:=by
 obtain⟨t,H⟩:=H;rw[cell_of_row _ _ _ _ _ _ H];simpa using hv
theorem IB.range (H:IB w b r):w.rangeAt b 0 r:=λj v d=>by
 rw[Nat.zero_add];exact H.cell j d
theorem IB.fz (H:IB w b r)(j:Nat):w.frozen? ⟨b,j,none⟩=false:=by
 obtain⟨t,H⟩:=H;unfold World.frozen?;rw[H];simp
theorem IB.there (H:IB w b r):w.there b 0 r.length:=λj d=>by
 rw[Nat.zero_add];exact⟨by rw[H.cell j (List.getElem?_eq_getElem d)];rfl,H.fz j⟩
theorem IB.set (H:IB w b r)(j:Nat)(v:Value):IB (w.setCell ⟨b,j,none⟩ v) b (r.set j v):=by
 obtain⟨t,H⟩:=H;refine⟨t,(setCell_at v H).trans ?_⟩;rw[List.setIfInBounds_toArray]
theorem Qtz {b:Nat}:∀(vs:List Value) (k:Nat) {w:World} {r:List Value},IB w b r->k+vs.length=r.length->IB (w.setCells b k vs) b (r.take k++vs)
 |[],k,w,r,H,hk=>by simp at hk;rw[hk];simpa [World.setCells] using H
 |v::vs,k,w,r,H,hk=>by
  have h1:=Qtz vs (k+1) (H.set k v) (by simp at hk ⊢;omega);have d:k<r.length:=by simp at hk;omega
  have e:(r.set k v).take (k+1)++vs=r.take k++v::vs:=by
   rw[List.take_succ_eq_append_getElem (by simpa using d),List.take_set_of_le (Nat.le_refl k)];simp
  rw[e] at h1;exact h1
theorem IB.all (H:IB w b r)(vs:List Value)(h:vs.length=r.length):IB (w.setCells b 0 vs) b vs:=by
 have:=Qtz vs 0 H (by omega);simpa using this
end
def Qa0 (fs:List Az):Nat->Nat
 |0=>0
 |k+1=>Qa0 fs k+(Nk fs k).wid.toNat
def rdI (fs:List Az)(l:List UInt8)(k:Nat):Int:=Zo ((l.drop (Qa0 fs k)).take (Nk fs k).wid.toNat)
def Qcs (fs:List Az)(x:Nat->Int)(r:List Value):Nat->List Value
 |0=>r
 |k+1=>(Qcs fs x r k).set (Nk fs k).o (.int .i64 (x k))
def tkF (fs:List Az)(l:List UInt8):Bool:=decide (l.length=Qa0 fs fs.length)&&Qho fs (rdI fs l)
theorem Qlx (fs:List Az):∀{a b:Nat},a<=b->Qa0 fs a<=Qa0 fs b
 |a,0,h=>by
  obtain rfl:a=0:=by omega
  exact Nat.le_refl _
 |a,b+1,h=>by
  rcases Nat.lt_or_ge a (b+1) with h1|h1
  ·exact Nat.le_trans (Qlx fs (by omega)) (Nat.le_add_right _ _)
  ·obtain rfl:a=b+1:=by omega
   exact Nat.le_refl _
theorem Qwl {w w':World}{base n c:Nat}{e:TypeId}{A:Option Addr}{l:List UInt8}(h:Own w base e A n c l)(p:∀g,base<=g->g<w.1.size->w'.1[g]?=w.1[g]?):Own w' base e A n c l:=by
 refine⟨h.1,?_⟩;rcases h.2 with f|⟨g,cap,d,f,h1,m,r⟩
 ·exact .inl f
 ·exact .inr ⟨g,cap,d,f,h1,(p g h1 (Array.getElem?_eq_some_iff.1 m).1).trans m,r⟩
theorem Qgy (fs:List Az)(x:Nat->Int)(r:List Value):∀k,(Qcs fs x r k).length=r.length
 |0=>rfl
 |k+1=>by simp[Qcs,Qgy fs x r k]
theorem Qvy (fs:List Az)(A:Option Addr)(n c:Nat)(p:Nat)(r:List Value)(B:Option Addr)(m d:Nat)(l:List UInt8)(w:World)(hF:Qcy w A n c fs)(V:∀g o,A=some ⟨g,o,none⟩->g≠p)
  (hH:IB w p r) (hs:Sl w B m d l) (hm:m<=1000000) (hn:n<=100) (hw:∀j,j<n->1<=(Nk fs j).wid/\(Nk fs j).wid<=7) (ho:∀j,j<n->(Nk fs j).b=p/\(Nk fs j).o<r.length)
  (b1:l.length=Qa0 fs n->∀j,j<n->(Qcs fs (rdI fs l) r n)[(Nk fs j).o]?=some (.int .i64 (rdI fs l j))) :
  Calls Tryz.prog 157 #[.slice B m d,.slice A n c] w λe w'=>e=.returned (.bool (tkF fs l))/\(∃r',IB w' p r'/\(tkF fs l=true->r'=Qcs fs (rdI fs l) r n))/\Turn (λk=>k=p) w w':=by
 have z:=Lib.hid hF.len;have Hl:=Lib.hid hs.len;have b3:=Lib.hid b1;clear b1;obtain⟨c8,b5⟩:=hF.bounds;unfold maxLen at b5;go_enter Tryz.func157,Tryz.ntmps157
 go_wp2_with fail
 go_loopw [0,10] (λs i wr=>∃(j:Nat) (B':Option Addr) (I d':Nat),j<=n/\s=.slice B' I d'/\i=.int .i64 (j:Int)/\Sl wr B' I d' (l.drop (Qa0 fs j))/\Qa0 fs j<=m/\IB wr p (Qcs fs (rdI fs l) r j)/\Turn (λk=>k=p) w wr) (λ_ i _=>n-(intOf i).toNat)
 case atStart=>exact⟨0,B,m,d,Nat.zero_le _,rfl,rfl,by simpa [Qa0] using hs,by simp[Qa0],hH,Turn.refl _ _⟩
 case round=>
  obtain⟨j,B',I,d',hj,rfl,rfl,Z,hp,H,hT⟩:=hrel;have U:I=m-Qa0 fs j:=by have:=Z.len;rw[List.length_drop,Hl.out] at this;omega
  have P:=Lib.hid U;have d0:I<=1000000:=by omega
  by_cases R:j<n
  ·obtain⟨g,o,hA,hg,c0,c1,c2,c3⟩:=(hF.turn hT V).cell R;have c9:=V g o hA;subst hA;obtain⟨hb,W⟩:=ho j R;have c6:=hw j R;have K:Qa0 fs (j+1)=Qa0 fs j+(Nk fs j).wid.toNat:=rfl;have G:Qcs fs (rdI fs l) r (j+1)=(Qcs fs (rdI fs l) r j).set (Nk fs j).o (.int .i64 (rdI fs l j)):=rfl;have M:rdI fs l j=(Zo ((l.drop (Qa0 fs j)).take (Nk fs j).wid.toNat):Int):=rfl;have b0:Qa0 fs (j+1)<=Qa0 fs n:=Qlx fs (by omega);obtain⟨f,hf⟩:∃f,Nk fs j=f:=⟨_,rfl⟩;rw[hf] at c0 c1 c2 c3 hb W c6 K G M;rw[hb] at c0;have Hf:=Lib.hid hf;have O:=Lib.hid G;clear hf hb G U;go_wp2_with fail
   have bx:Below wr.1.size wr (wr.alloc (.cells #[.pointer (some ⟨p,f.o,none⟩),.int .i64 f.wid,.int .i64 f.lo,.int .i64 f.hi] 263)):=Ib;have x0:(wr.alloc (.cells #[.pointer (some ⟨p,f.o,none⟩),.int .i64 f.wid,.int .i64 f.lo,.int .i64 f.hi] 263)).1[wr.1.size]?=some (.cells #[.pointer (some ⟨p,f.o,none⟩),.int .i64 f.wid,.int .i64 f.lo,.int .i64 f.hi] 263 (0,0)):=heap_alloc_new wr _;have zx:wr.1.size<(wr.alloc (.cells #[.pointer (some ⟨p,f.o,none⟩),.int .i64 f.wid,.int .i64 f.lo,.int .i64 f.hi] 263)).1.size:=by simp
   generalize wr.alloc (.cells #[.pointer (some ⟨p,f.o,none⟩),.int .i64 f.wid,.int .i64 f.lo,.int .i64 f.hi] 263)=u at bx x0 zx ⊢;have q0:u.cell? ⟨wr.1.size,0,none⟩=some (.pointer (some ⟨p,f.o,none⟩)):=by rw[cell_of_row _ _ _ _ _ _ x0];rfl
   have q1:u.cell? ⟨wr.1.size,1,none⟩=some (.int .i64 f.wid):=by rw[cell_of_row _ _ _ _ _ _ x0];rfl
   have b6:=H.lt;have H1:=H.below bx b6;have b9:=Z.below bx;have a2:Turn (λk=>k=p) w u:=hT.then (Uk bx);have a8:wr.1.size≠p:=by omega
   clear c0 c1 c2 c3 x0 Z H hT bx;have Q:∀w':World,Turn (λk=>k=p) u w'->w'.cell? ⟨wr.1.size,0,none⟩=some (.pointer (some ⟨p,f.o,none⟩))/\w'.cell? ⟨wr.1.size,1,none⟩=some (.int .i64 f.wid)/\Turn (λk=>k=p) u w':=λw' T=>⟨(World.cell?_of_block (T.block wr.1.size zx a8)).trans q0,(World.cell?_of_block (T.block wr.1.size zx a8)).trans q1,T⟩
   have TD:Turn (λk=>k=p) u u.drew:=Uk (Below.refl _ _).drew;by_cases b8:(I:Int)<f.wid
   ·have F:tkF fs l=false:=by
     unfold tkF;rw[decide_eq_false (by rw[z.out,Hl.out];have:=P.out;omega),Bool.false_and]
    have HT:=λ(w':World)=>Qj6 B' I d' f.wid w' (by omega) (by omega) b8
    have E:=Lib.hid F;obtain⟨v,hv⟩:∃v,(Qcs fs (rdI fs l) r j)[f.o]?=some v:=⟨_,List.getElem?_eq_getElem (by rw[Qgy];exact W)⟩;clear F M K b0 hp;have q5:=H1.cell f.o hv;have q6:=H1.fz f.o;clear hv;go_region_held3 (λw'=>w'.cell? ⟨wr.1.size,0,none⟩=some (.pointer (some ⟨p,f.o,none⟩))/\w'.cell? ⟨wr.1.size,1,none⟩=some (.int .i64 f.wid)/\Turn (λk=>k=p) u w')
     (first|assumption|exact Q _ TD|(go_split_ands;exact Q _ (Turn.then ‹Turn (λk=>k=p) u _› (Uk ‹Below (World.heap _).size _ _›)))|(go_split_ands;exact Q _ (Turn.drew (Gi _ rfl)))|exact Q _ (Turn.drew (Gi _ rfl)))
     (first
      |(go_at_call 151;refine (HT _).mono ?_;rintro e w3 ⟨rfl,rfl⟩)
      |fail)
    go_wp2;go_ret;refine⟨by rw[E.out];rfl,⟨_,H1.set f.o _,λh=>absurd h (by rw[E.out];exact Bool.false_ne_true)⟩,a2.then (TD.then (Gi _ rfl))⟩
   ·have HT:=λ(w':World) (h':Sl w' B' I d' (l.drop (Qa0 fs j)))=>Qby B' I d' (l.drop (Qa0 fs j)) f.wid w' h' (by omega) (by omega) (by omega) (by omega)
    rw[List.drop_drop,<-K,<-M] at HT;obtain⟨v,hv⟩:∃v,(Qcs fs (rdI fs l) r j)[f.o]?=some v:=⟨_,List.getElem?_eq_getElem (by rw[Qgy];exact W)⟩;have b7:Qa0 fs (j+1)<=m:=by have:=P.out;omega
    have c7:=Lib.hid (show (l.drop (Qa0 fs (j+1))).length=m-Qa0 fs (j+1) by rw[List.length_drop,Hl.out]);generalize rdI fs l j=y at HT O;clear M K b0 hp;go_region_held3 (λw'=>w'.cell? ⟨wr.1.size,0,none⟩=some (.pointer (some ⟨p,f.o,none⟩))/\w'.cell? ⟨wr.1.size,1,none⟩=some (.int .i64 f.wid)/\Turn (λk=>k=p) u w')
     (first|assumption|exact Q _ TD|(go_split_ands;exact Q _ (Turn.then ‹Turn (λk=>k=p) u _› (Uk ‹Below (World.heap _).size _ _›)))|(go_split_ands;exact Q _ (Turn.then ‹Turn (λk=>k=p) u _› (Gi _ rfl))))
     (first
      |(go_at_call 151;refine (HT _ b9.drew).mono ?_;rintro e w3 ⟨A3,n3,c3,rfl,X,J⟩;have a6:Below u.1.size u w3:=(Below.refl _ u).drew.trans J;have H3:=H1.below a6 (by omega);have q5:=H3.cell f.o hv;have q6:=H3.fz f.o)
      |fail)
    clear q5 q6;have T5:Turn (λk=>k=p) w3 (w3.setCell ⟨p,f.o,none⟩ (.int .i64 y)):=Gi _ rfl;have Y:Sl (w3.setCell ⟨p,f.o,none⟩ (.int .i64 y)) A3 n3 c3 (l.drop (Qa0 fs (j+1))):=(Qwl X λg hg _=>Below.heap_setCell _ _ _ _ (by show g≠p;have h1:u.drew.1.size=u.1.size:=rfl;have:=H1.lt;omega)).sl;have H5:=H3.set f.o (.int .i64 y);rw[<-O.out] at H5;go_wp2;exact⟨⟨j+1,A3,n3,c3,by omega,rfl,rfl,Y,b7,H5,a2.then ((Uk a6).then T5)⟩,by simp[intOf];omega⟩
  ·obtain rfl:j=n:=by omega
   have D:tkF fs l=(decide (I=0)&&Qho fs (rdI fs l)):=by
    unfold tkF;rw[z.out,Hl.out];congr 1
    exact decide_eq_decide.2 (by omega)
   have b4:=hF.turn hT V;clear U;by_cases h0:I=0
   ·have a1:Nums wr fs (rdI fs l):=λq hq=>by
     obtain⟨e1,e2⟩:=ho q (by rw[<-z.out];exact hq);rw[e1];exact⟨H.lt,H.cell _ (b3.out (by rw[Hl.out];have:=P.out;omega) q (by rw[<-z.out];exact hq))⟩
    have Hm:=Qow fs (rdI fs l) A j c wr b4 a1;have a7:tkF fs l=Qho fs (rdI fs l):=by rw[D,decide_eq_true h0,Bool.true_and]
    have b2:=Lib.hid a7;subst h0;clear D a7 a1;go_wp2_with (go_at_call 179;refine Hm.mono ?_;rintro e w3 ⟨rfl,J⟩)
    go_ret;refine⟨by rw[b2.out];rfl,⟨_,H.below J H.lt,λ_=>rfl⟩,hT.then (Uk J)⟩
   ·have F:tkF fs l=false:=by rw[D,decide_eq_false h0,Bool.false_and]
    have E:=Lib.hid F;clear D F;go_wp2;go_ret;refine⟨by rw[E.out];rfl,⟨_,H,λh=>absurd h (by rw[E.out];exact Bool.false_ne_true)⟩,hT⟩
def Nv (b:Nat):List Az:=[⟨b,1,4,1,2147483647⟩,⟨b,2,1,1,2⟩]
theorem Zcu {w:World}{b:Nat}{f:Az}(H:IB w b f.vs):(loadVar 263 ⟨b,0,none⟩).run Tryz.prog w=.ok (.agg f.vs.toArray) w:=
 run_loadVar_mid w b 0 263 _ _ H.range Tryz.underlying263 rfl (by kernel_rfl)
theorem Zai {f:Func}{p:Tmp}{ty:TypeId}{g:Addr}{v:Value}{P:Program}{w:World}{d:Array Value}(h:f.results=#[.cell p ty])(q:d.getD p undef=.pointer (some g))(m:(loadVar ty g).run P w=.ok v w) :
  (results f d).run P w=.ok v w:=by
 have e:(results f d).run P w=((asAddr (d.getD p undef)).run P w).andThen λa u=>(loadVar ty a).run P u:=by
  simp only[results,h];simp[Sem.run_bind,Result.andThen];try rfl
 rw[e,q];simp[asAddr,m]
theorem Qys (w:World)(t:TypeId)(e:Array Value)(fs:List Az)(n:Nat)(p:e=(fs.map Az.vs).flatten.toArray)(hn:fs.length=n)(hm:n<=100):Qcy (w.alloc (.cells e t)) (some ⟨w.1.size,0,none⟩) n n fs:=by
 have g:∀x∈fs.map Az.vs,x.length=4:=λx d=>by
  obtain⟨f,_,rfl⟩:=List.mem_map.1 d;rfl
 refine⟨by simpa using hn,Nat.le_refl _,by unfold maxLen;omega,λj x d=>⟨w.1.size,0,rfl,by simp,g x (List.mem_of_getElem? d),λi v q=>?_⟩⟩;have m:=Ap g j x d i v q;rw[cell_of_row _ _ _ _ _ _ (heap_alloc_new w _),p,Nat.zero_add];simpa using m
theorem alB {w w':World}(u:Grown w)(o:Obj)(h:w'=u.to.alloc o):Below w.1.size w w':=by
 subst h;exact u.ok.trans ((Below.refl _ _).alloc u.ok.size _)
theorem Qkj (b o:Nat)(w:World) :
  Calls Tryz.prog 181 #[.pointer (some ⟨b,o,none⟩)] w λe w'=>e=.returned (.agg #[.pointer (some ⟨b,o,none⟩),.int .i64 1,.int .i64 1,.int .i64 2])/\Below w.1.size w w':=by
 go_enter Tryz.func181,Tryz.ntmps181
 go_wp2;exact bodyPost_ret (Zai Tryz.results181 rfl (Zcu (f:=⟨b,o,1,1,2⟩) (IB.new w _ _))) rfl ⟨rfl,Ib⟩
theorem Qk8 (b:Nat)(w:World) :
  Calls Tryz.prog 106 #[.pointer (some ⟨b,0,none⟩)] w λe w'=>∃g,e=.returned (.slice (some ⟨g,0,none⟩) 2 2)/\Qcy w' (some ⟨g,0,none⟩) 2 2 (Nv b)/\w.1.size<=g/\Below w.1.size w w':=by
 go_enter Tryz.func106,Tryz.ntmps106
 go_wp2_with fail
 refine Oq 8 (by kernel_rfl) (by kernel_rfl) ?_;simp only[List.take_succ_cons,List.take_zero,List.drop_succ_cons,List.drop_zero];repeat (go_big_quiet_step (first|(go_at_call 181;exact Calls.grown (Qkj b 2 _))|fail))
 refine wpQuiet_nil ?_;rintro _ ⟨u,rfl⟩;go_wp2_with fail
 go_ret;exact⟨u.to.1.size,rfl,Qys u.to _ _ (Nv b) 2 rfl rfl (by omega),u.ok.size,alB u _ rfl⟩
theorem Qb4 (s:ByteArray)(r:Bool)(h:decide (1<=s.size/\s.size<=20)=r)(w:World) :
  Calls Tryz.prog 103 #[.string s] w λe w'=>e=.returned (.bool r)/\w=w':=by
 go_enter Tryz.func103,Tryz.ntmps103
 go_wp2_with (go_at_call 176;refine (Qc6 (s.size:Int) 1 20 r (by rw[<-h];exact decide_eq_decide.2 (by omega)) w).mono ?_;rintro e d ⟨rfl,rfl⟩)
 go_ret;exact⟨rfl,rfl⟩
theorem Zfu (a b:Az)(x:Nat->Int):Qho [a,b] x=(inF a (x 0)&&inF b (x 1)):=by
 simp[Qho,List.range,List.range.loop,Nk]
theorem Qbi {P:Program}{e:Array Oper}{d:List Oper}{o:Oper}{a:Act}{w:World}{Q:Exit->Act->World->Prop}(q:o.guard=none)(ty:TypeId)(x y:Operand)(f:o.op=Op.store ty x y)
  (b:Nat) (z:a.eval x=.pointer (some ⟨b,0,none⟩)) (vs:List Value) (B:a.eval y=.agg vs.toArray) {r:List Value} (H:IB w b r) (m:vs.length=r.length) (hi:(P.info? ty).map (·.size)=some vs.length) (h1:vs.all (·.oneCell')=true)
  (p:∀w',IB w' b vs->Turn (λg=>g=b) w w'->wpList P e Q d (a.put o.dst undef) w'):wpList P e Q (o::d) a w:=
 wpList_store_mid q _ x y f b 0 vs.toArray z B (by have:=H.there;simpa [m] using this) (by simpa using hi) (all_oneCell_toArray (λv u=>(List.all_eq_true.1 h1) v u)) (p _ (H.all vs m) (Gg (S:=λg=>g=b) rfl _ 0 w))
theorem Qs7 {P:Program}{f:Array Oper}{e:List Oper}{o:Oper}{a:Act}{w:World}{Q:Exit->Act->World->Prop}(p:o.guard=none)(ty:TypeId)(x:Operand)(g:o.op=Op.load ty x)
  (b:Nat) (u:a.eval x=.pointer (some ⟨b,0,none⟩)) (vs:List Value) (H:IB w b vs) {d:TypeDesc} (q:P.underlying ty=some d) (hd:d.isRow=true) (hi:(P.info? ty).map (·.size)=some vs.length)
  (m:wpList P f Q e (a.put o.dst (.agg vs.toArray)) w):wpList P f Q (o::e) a w:=
 wpList_load_mid p ty x g b 0 u vs d H.range q hd hi m
theorem Qjr {g:Func}{p a:Tmp}{ty:TypeId}{f:Addr}{v:Value}{P:Program}{w:World}{d:Array Value}(h:g.results=#[.cell p ty,.tmp a])(q:d.getD p undef=.pointer (some f))(m:(loadVar ty f).run P w=.ok v w) :
  (results g d).run P w=.ok (.tuple #[v,d.getD a undef]) w:=by
 have e:(results g d).run P w=((asAddr (d.getD p undef)).run P w).andThen λf u=>((loadVar ty f).run P u).andThen λv y=>.ok (.tuple #[v,d.getD a undef]) y:=by
  simp only[results,h];simp[Sem.run_bind,Result.andThen]
 rw[e,q];simp[asAddr,m]
structure Wh where
 name:ByteArray
 ino:Int
 kind:Int
def Wh.x (e:Wh):Nat->Int
 |0=>e.ino
 |_=>e.kind
def Qij (x y:Int):Bool:=decide ((1<=x/\x<=2147483647)/\1<=y/\y<=2)
def Qhz (s:ByteArray):Bool:=decide (1<=s.size/\s.size<=20)
def Wh.may (e:Wh):Bool:=Qhz e.name&&Qij e.ino e.kind
def Wh.bytes (e:Wh):List UInt8:=(Zw e.name.size 1++e.name.data.toList)++(Zw e.ino 4++Zw e.kind 1)
def Wh.vs (e:Wh):List Value:=[.string e.name,.int .i64 e.ino,.int .i64 e.kind]
def Qs6 (l:List UInt8):Bool:=decide (1<=l.length/\1+Zo (l.take 1)<=l.length)
theorem Qey (l:List UInt8):Qs6 l=true↔Qbz l 1:=decide_eq_true_iff
def Td (l:List UInt8):Wh:=⟨⟨(bodyT l 1).toArray⟩,Zo ((Kw l 1).take 4),Zo (((Kw l 1).drop 4).take 1)⟩
def Qdl (l:List UInt8):Bool:=decide ((Kw l 1).length=5)&&Qij (Td l).ino (Td l).kind
def Tf (l:List UInt8):Bool:=Qs6 l&&(Qhz (Td l).name&&Qdl l)
theorem Qtr (b:Nat)(i:Wh)(x:Nat->Int)(h0:x 0=i.ino)(h1:x 1=i.kind):Qho (Nv b) x=Qij i.ino i.kind:=by
 unfold Nv;rw[Zfu,h0,h1];unfold inF Qij;simp only[Bool.decide_and]
theorem Qtt (b j:Nat)(d:j<2):1<=(Nk (Nv b) j).wid/\(Nk (Nv b) j).wid<=7:=by
 match j,d with
 |0,_=>simp[Nk,Nv]
 |1,_=>simp[Nk,Nv]
theorem Zcd (b j:Nat)(r:List Value)(e:r.length=3)(d:j<2):(Nk (Nv b) j).b=b/\(Nk (Nv b) j).o<r.length:=by
 rw[e];match j,d with
 |0,_=>simp[Nk,Nv]
 |1,_=>simp[Nk,Nv]
theorem Zei (b:Nat)(l:List UInt8):tkF (Nv b) (Kw l 1)=Qdl l:=by
 unfold tkF Qdl;rw[Qtr b (Td l) _ rfl rfl];rfl
theorem Qts (b:Nat)(l:List UInt8)(s:ByteArray)(x y:Value):Qcs (Nv b) (rdI (Nv b) l) [.string s,x,y] 2=[.string s,.int .i64 (rdI (Nv b) l 0),.int .i64 (rdI (Nv b) l 1)]:=rfl
theorem Qvc (b:Nat)(l:List UInt8)(s:ByteArray)(x y:Value)(j:Nat)(d:j<2):(Qcs (Nv b) (rdI (Nv b) l) [.string s,x,y] 2)[(Nk (Nv b) j).o]?=some (.int .i64 (rdI (Nv b) l j)):=by
 rw[Qts b l s];match j,d with
 |0,_=>rfl
 |1,_=>rfl
theorem Zce (b:Nat)(i:Wh):Qjm (Nv b) i.x (Zw i.name.size 1++i.name.data.toList) 2=i.bytes:=by
 simp[Qjm,Nv,Nk,Wh.x,Wh.bytes]
theorem Qyh {w:World}{b:Nat}{i:Wh}(H:IB w b i.vs):Nums w (Nv b) i.x:=λj d=>by
 match j,d with
 |0,_=>exact⟨H.lt,H.cell 1 rfl⟩
 |1,_=>exact⟨H.lt,H.cell 2 rfl⟩
theorem Qav {w:World}{b:Nat}{i:Wh}(H:IB w b i.vs):(loadVar 32 ⟨b,0,none⟩).run Tryz.prog w=.ok (.agg #[.string i.name,.int .i64 i.ino,.int .i64 i.kind]) w:=
 run_loadVar_mid w b 0 32 _ _ H.range Tryz.underlying32 rfl (by kernel_rfl)
def Wh.zero:Wh:=⟨⟨#[]⟩,0,0⟩
def Qab (w:World)(l:List UInt8)(e:Ending)(w':World):Prop:=
 (Tf l=false->e=.returned (.tuple #[.agg #[.string ⟨#[]⟩,.int .i64 0,.int .i64 0],.int .i64 3]))/\(Tf l=true->e=.returned (.tuple #[.agg #[.string (Td l).name,.int .i64 (Td l).ino,.int .i64 (Td l).kind],.int .i64 0]))/\Below w.1.size w w'
theorem Qab.no {w w':World}{l:List UInt8}(h:Tf l=false)(hb:Below w.1.size w w'):Qab w l (.returned (.tuple #[.agg #[.string ⟨#[]⟩,.int .i64 0,.int .i64 0],.int .i64 3])) w':=
 ⟨λ_=>rfl,λh2=>absurd (h.symm.trans h2) Bool.false_ne_true,hb⟩
theorem Qab.yes {w w':World}{l:List UInt8}{i:Wh}(h:Tf l=true)(hi:Td l=i)(hb:Below w.1.size w w'):Qab w l (.returned (.tuple #[.agg #[.string i.name,.int .i64 i.ino,.int .i64 i.kind],.int .i64 0])) w':=
 ⟨λh2=>absurd (h2.symm.trans h) Bool.false_ne_true,λ_=>by rw[hi],hb⟩
theorem Qir (B:Option Addr)(m d:Nat)(l:List UInt8)(w:World)(hs:Sl w B m d l)(hm:m<=1000000) :
  Calls Tryz.prog 93 #[.slice B m d] w λe w'=>Qab w l e w':=by
 have T:IB (w.alloc (.cells Wh.zero.vs.toArray 32)) w.1.size Wh.zero.vs:=IB.new w _ _;have J:Below w.1.size w (w.alloc (.cells Wh.zero.vs.toArray 32)):=Ib;go_enter Tryz.func93,Tryz.ntmps93
 go_wp2_with fail
 change Calls _ _ _ (w.alloc (.cells Wh.zero.vs.toArray 32)) _;generalize w.alloc (.cells Wh.zero.vs.toArray 32)=Z at T J ⊢;have s1:=hs.below J
 cases M:Qs6 l
 ·have u:Tf l=false:=by unfold Tf;rw[M,Bool.false_and]
  refine (Qf2 B m d l Z s1 (λh=>absurd ((Qey l).2 h) (by rw[M];exact Bool.false_ne_true))).mono ?_;rintro e f ⟨rfl,rfl⟩;have K:Below Z.1.size Z (Z.alloc (.cells Wh.zero.vs.toArray 32)):=Ib;have U:=T.below K T.lt;have p:=Lib.hid u;clear u M;go_wp2_with (refine Qbi rfl _ _ _ rfl w.1.size rfl Wh.zero.vs rfl (by exact U) rfl (by kernel_rfl) rfl ?_;intro w4 I T4)
  refine bodyPost_ret (Qjr Tryz.results93 rfl (Qav I)) rfl (Qab.no p.out ?_);have H:=J.trans (K.mono J.size);exact H.trans (T4.below (λx G=>by omega) H.size)
 ·refine (Qec B m d l Z s1 (by omega) ((Qey l).1 M)).mono ?_;rintro e f ⟨A2,n2,c2,rfl,D,P⟩;have a1:n2<=1000000:=by have:=D.len;have:=Qp3 l 1;have:=hs.len;omega
  have R2:=T.below P T.lt;have B2:=J.trans (P.mono J.size);have hz:=J.size;have h0:w.1.size<f.1.size:=R2.lt;obtain⟨s,z⟩:∃s,(Td l).name=s:=⟨_,rfl⟩;have es:(⟨(bodyT l 1).toArray⟩:ByteArray)=s:=z;have H3:IB (f.alloc (.cells [Value.string s,.int .i64 0,.int .i64 0].toArray 32)) f.1.size [.string s,.int .i64 0,.int .i64 0]:=IB.new f _ _;have K:Below f.1.size f (f.alloc (.cells [Value.string s,.int .i64 0,.int .i64 0].toArray 32)):=Ib;have z3:(f.alloc (.cells [Value.string s,.int .i64 0,.int .i64 0].toArray 32)).1.size=f.1.size+1:=by simp
  rw[es];go_wp2_with fail
  change Calls _ _ _ (f.alloc (.cells [Value.string s,.int .i64 0,.int .i64 0].toArray 32)) _;generalize f.alloc (.cells [Value.string s,.int .i64 0,.int .i64 0].toArray 32)=w3 at H3 K z3 ⊢;have U:=R2.below K h0;have s3:=D.sl.below K;have H:=B2.trans (K.mono B2.size);clear T J s1 D P R2 B2 K
  cases E:Qhz s
  ·have u:Tf l=false:=by unfold Tf;rw[z,E,Bool.false_and,Bool.and_false]
   have p:=Lib.hid u;clear u M;refine (Qb4 s false E w3).mono ?_;rintro e w' ⟨rfl,rfl⟩;go_wp2_with (refine Qbi rfl _ _ _ rfl w.1.size rfl Wh.zero.vs rfl (by exact U) rfl (by kernel_rfl) rfl ?_;intro w4 I T4)
   refine bodyPost_ret (Qjr Tryz.results93 rfl (Qav I)) rfl (Qab.no p.out ?_);exact H.trans (T4.below (λx G=>by omega) H.size)
  ·have F:Tf l=Qdl l:=by unfold Tf;rw[z,M,E,Bool.true_and,Bool.true_and]
   refine (Qb4 s true E w3).mono ?_;rintro e w' ⟨rfl,rfl⟩;go_wp2_with fail
   refine (Qk8 f.1.size w3).mono ?_;rintro e w4 ⟨g,rfl,hF,hg,q⟩;have I:=U.below q U.lt;have H4:=H3.below q H3.lt;have s4:=s3.below q;have Q:=H.trans (q.mono H.size);have R:=Qvy (Nv f.1.size) (some ⟨g,0,none⟩) 2 2 f.1.size _ A2 n2 c2 (Kw l 1) w4 hF (λg' o e=>by injection e with e;injection e with e1;omega) H4 s4 a1 (by omega) (Qtt _) (λj hj=>Zcd _ j _ rfl hj) (λ_ j hj=>Qvc _ _ _ _ _ j hj);rw[Zei,Qts] at R;have Y:¬(w.1.size=f.1.size):=by omega
   have X:=Lib.hid h0;clear U H3 s3 H q hz z3
   cases V:Qdl l
   ·rw[V] at R;have p:=Lib.hid (F.trans V);clear F V M;go_wp2_with (first
     |(go_at_call 157;refine R.mono ?_;rintro e w5 ⟨rfl,-,O⟩;have R5:=I.keep (O.block _ I.lt Y))
     |(refine Qbi rfl _ _ _ rfl w.1.size rfl Wh.zero.vs rfl R5 rfl (by kernel_rfl) rfl ?_;intro w6 R6 T6))
    refine bodyPost_ret (Qjr Tryz.results93 rfl (Qav R6)) rfl (Qab.no p.out ?_);exact Q.trans ((O.below (B:=w.1.size) (λx G=>by have:=X.out;omega) Q.size).trans (T6.below (λx G=>by omega) (Nat.le_trans Q.size O.size)))
   ·rw[V] at R;have W:=Lib.hid (F.trans V);obtain⟨x,G⟩:∃x,(Td l).ino=x:=⟨_,rfl⟩;obtain⟨y,hy⟩:∃y,(Td l).kind=y:=⟨_,rfl⟩;have ex:rdI (Nv f.1.size) (Kw l 1) 0=x:=G;have ey:rdI (Nv f.1.size) (Kw l 1) 1=y:=hy;rw[ex,ey] at R;have Hi:=Lib.hid (show Td l=⟨s,x,y⟩ by rw[<-z,<-G,<-hy]);clear F V M ex ey G hy z es;go_wp2_with (first
     |(go_at_call 157;refine R.mono ?_;rintro e w5 ⟨rfl,⟨r',H5,a2⟩,O⟩;obtain rfl:=a2 trivial;have R5:=I.keep (O.block _ I.lt Y))
     |(refine Qs7 rfl _ _ rfl f.1.size rfl _ H5 Tryz.underlying32 rfl (by kernel_rfl) ?_)
     |(refine Qbi rfl _ _ _ rfl w.1.size rfl (Wh.mk s x y).vs rfl R5 rfl (by kernel_rfl) rfl ?_;intro w6 R6 T6))
    refine bodyPost_ret (Qjr Tryz.results93 rfl (Qav R6)) rfl (Qab.yes W.out Hi.out ?_);exact Q.trans ((O.below (B:=w.1.size) (λx G=>by have:=X.out;omega) Q.size).trans (T6.below (λx G=>by omega) (Nat.le_trans Q.size O.size)))
theorem Qyg (s:List UInt8)(r:List UInt8)(h:s.length<=20):Qbz ((Zw (s.length:Int) 1++s)++r) 1/\bodyT ((Zw (s.length:Int) 1++s)++r) 1=s/\Kw ((Zw (s.length:Int) 1++s)++r) 1=r:=by
 have d:((Zw (s.length:Int) 1++s)++r).take 1=Zw (s.length:Int) 1:=by rw[List.append_assoc];exact List.take_left' (Ye _ _)
 have f:((Zw (s.length:Int) 1++s)++r).drop 1=s++r:=by rw[List.append_assoc];exact List.drop_left' (Ye _ _)
 have e:Zo (Zw (s.length:Int) 1)=s.length:=by rw[Qls];omega
 refine⟨?_,?_,?_⟩
 ·unfold Qbz;rw[d,e];simp[Ye]
 ·unfold bodyT;rw[d,f,e];exact List.take_left' rfl
 ·unfold Kw;rw[d,e,<-List.drop_drop,f];exact List.drop_left' rfl
theorem Qhv (e:Wh):e.bytes.length=6+e.name.size:=by
 have d:e.name.data.size=e.name.size:=rfl;simp[Wh.bytes,Ye];omega
theorem Qyf (e:Wh)(h:e.may=true):Td e.bytes=e/\Tf e.bytes=true:=by
 obtain⟨hn,m⟩:=Bool.and_eq_true_iff.1 h;have u:=of_decide_eq_true hn;have hm:=of_decide_eq_true m;have p:e.name.data.toList.length=e.name.size:=by simp
 obtain⟨f,g,d⟩:=Qyg e.name.data.toList (Zw e.ino 4++Zw e.kind 1) (by omega);rw[p] at f g d;have q:(Zw (e.name.size:Int) 1++e.name.data.toList)++(Zw e.ino 4++Zw e.kind 1)=e.bytes:=rfl;rw[q] at f g d;have hi:Td e.bytes=e:=by
  unfold Td;rw[g,d,List.take_left' (Ye _ _),List.drop_left' (Ye _ _),List.take_of_length_le (by rw[Ye];omega),Qbu e.ino 4 (by omega) (by omega),Qbu e.kind 1 (by omega) (by omega)]
 refine⟨hi,?_⟩;unfold Tf Qdl;rw[hi,hn,m,(Qey _).2 f,d];simp[Ye]
def Qrm (l:List UInt8):Wh:=if Tf l=true then Td l else Wh.zero
def Qok (l:List UInt8):Int:=if Tf l=true then 0 else 3
theorem Zcc {l:List UInt8}(h:Tf l=false):Qrm l=Wh.zero/\Qok l=3:=by unfold Qrm Qok;rw[h];exact⟨rfl,rfl⟩
theorem Qik {l:List UInt8}(h:Tf l=true):Qrm l=Td l/\Qok l=0:=by unfold Qrm Qok;rw[if_pos h,if_pos h];exact⟨rfl,rfl⟩
theorem Qhn (B:Option Addr)(m d:Nat)(l:List UInt8)(w:World)(q:Sl w B m d l)(hm:m<=1000000) :
  Calls Tryz.prog 93 #[.slice B m d] w λe w'=>e=.returned (.tuple #[.agg #[.string (Qrm l).name,.int .i64 (Qrm l).ino,.int .i64 (Qrm l).kind],.int .i64 (Qok l)])/\Below w.1.size w w':=by
 refine (Qir B m d l w q hm).mono λe w' ⟨h1,h2,p⟩=>⟨?_,p⟩
 cases h:Tf l
 ·obtain⟨f,g⟩:=Zcc h;rw[f,g];exact h1 h
 ·obtain⟨f,g⟩:=Qik h;rw[f,g];exact h2 h
