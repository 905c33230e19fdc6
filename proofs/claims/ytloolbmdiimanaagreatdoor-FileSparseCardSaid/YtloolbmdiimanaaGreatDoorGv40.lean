/- Inode's fields as rows in memory: where each number lies, its width, what it may be; wheth -/
import Derived.Test.YtloolbmdiimanaaGreatDoorGv3
import Derived.Test.YtloolbmdiimanaaGreatDoorGv4
import Derived.Test.YtloolbmdiimanaaGreatDoorGv9
import Derived.Deep.RegionHeld3
import Derived.BigRegion
import Derived.StillTailTactics
namespace Go.Proofs.YtloolbmdiimanaaGreatDoor
open Go Go.RowKit Go.Proofs Tryz
set_option maxHeartbeats 4000000
set_option maxRecDepth 10000
structure Uo where
 b:Nat
 o:Nat
 wid:Int
 lo:Int
 hi:Int
def Uo.vs (f:Uo):LV:=[.pointer (some ⟨f.b,f.o,none⟩),.int .i64 f.wid,.int .i64 f.lo,.int .i64 f.hi]
def Uc (w:WD)(A:OA)(n c:Nat)(fs:List Uo):Prop:=Jy w 4 A n c (fs.map Uo.vs)
def Jj (fs:List Uo)(j:Nat):Uo:=fs.getD j ⟨0,0,0,0,0⟩
section
variable {w w':WD}{n c:Nat}{A:OA}{fs:List Uo}
theorem Uc.len (h:Uc w A n c fs):fs.length=n:=by have:=Jy.len h;simpa using this
theorem Uc.bounds (h:Uc w A n c fs):n<=c/\c<=maxLen:=⟨Jy.cap h,Jy.max h⟩
theorem Uc.below (h:Uc w A n c fs)(hb:Below w.1.size w w'):Uc w' A n c fs:=Jy.below h hb
theorem Uc.turn {b:Nat}(h:Uc w A n c fs)(ht:Turn (λk=>k=b) w w')(hne:∀g o,A=some ⟨g,o,none⟩->g≠b):Uc w' A n c fs:=
 Jy.keep h ht.size λg o d e=>ht.block g e (hne g o d)
theorem Uc.cell (h:Uc w A n c fs){j:Nat}(hj:j<n):∃g o,A=some ⟨g,o,none⟩/\g<w.1.size/\w.cell? ⟨g,o+j*4,none⟩=some (.pointer (some ⟨(Jj fs j).b,(Jj fs j).o,none⟩))/\
  w.cell? ⟨g,o+j*4+1,none⟩=some (.int .i64 (Jj fs j).wid)/\w.cell? ⟨g,o+j*4+2,none⟩=some (.int .i64 (Jj fs j).lo)/\w.cell? ⟨g,o+j*4+3,none⟩=some (.int .i64 (Jj fs j).hi):=by
 have m:j<fs.length:=by have:=h.len;omega
 obtain⟨g,o,rfl,f,_,d⟩:=Jy.at_ h hj;have e:(fs.map Uo.vs).getD j []=(Jj fs j).vs:=by unfold Jj;simp[List.getD,m]
 rw[e] at d;exact⟨g,o,rfl,f,d 0 _ rfl,d 1 _ rfl,d 2 _ rfl,d 3 _ rfl⟩
end
def Nums (w:WD)(fs:List Uo)(x:Nat->Int):Prop:=∀j,j<fs.length->(Jj fs j).b<w.1.size/\w.cell? ⟨(Jj fs j).b,(Jj fs j).o,none⟩=some (.int .i64 (x j))
theorem Nums.below {w w':WD}{fs:List Uo}{x:Nat->Int}(h:Nums w fs x)(hb:Below w.1.size w w'):Nums w' fs x:=λj d=>by
 obtain⟨h1,h2⟩:=h j d;exact⟨Nat.lt_of_lt_of_le h1 hb.size,(hb.cell (p:=⟨_,_,none⟩) h1).trans h2⟩
def inF (f:Uo)(x:Int):Bool:=decide (f.lo<=x/\x<=f.hi)
def Gz (fs:List Uo)(x:Nat->Int):Bool:=(List.range fs.length).all λj=>inF (Jj fs j) (x j)
theorem qxk {fs:List Uo}{x:Nat->Int}{j:Nat}(d:j<fs.length)(h:inF (Jj fs j) (x j)=false):Gz fs x=false:=by
 unfold Gz;rw[List.all_eq_false];exact⟨j,List.mem_range.2 d,by rw[h];simp⟩
theorem qur {fs:List Uo}{x:Nat->Int}(h:∀j,j<fs.length->inF (Jj fs j) (x j)=true):Gz fs x=true:=by
 unfold Gz;rw[List.all_eq_true];exact λj d=>h j (List.mem_range.1 d)
theorem q6d (x a b:Int)(r:Bool)(h:decide (a<=x/\x<=b)=r)(w:WD) :
  Calls prog 92 #[.int .i64 x,.int .i64 a,.int .i64 b] w λe w'=>e=.returned (.bool r)/\w=w':=by
 subst h;go_enter func92,ntmps92
 go_wp2;all_goals
  go_ret;refine⟨congrArg (λx=>Ending.returned (Value.bool x)) ?_,rfl⟩;first
   |exact (AH (by omega)).symm
   |exact decide_eq_decide.2 (by omega)
   |(rw[Bool.eq_iff_iff];simp;omega)
theorem qes (fs:List Uo)(x:Nat->Int)(A:OA)(n c:Nat)(w:WD)(hF:Uc w A n c fs)(hN:Nums w fs x) :
  Calls prog 91 #[.slice A n c] w λe w'=>e=.returned (.bool (Gz fs x))/\Below w.1.size w w':=by
 have d:=HI hF.len;obtain⟨a0,T⟩:=hF.bounds;unfold maxLen at T;go_enter func91,ntmps91
 go_wp2_with fail
 go_loopw [7] (λi wr=>∃j:Nat,j<=n/\i=.int .i64 (j:Int)/\(∀q,q<j->inF (Jj fs q) (x q)=true)/\Below w.1.size w wr) (λi _=>n-(intOf i).toNat)
 case atStart=>exact⟨0,AW _,rfl,λq hq=>by omega,AI _ _⟩
 case round=>
  obtain⟨j,hj,rfl,D,E⟩:=hrel;by_cases G:j<n
  ·obtain⟨g,o,hA,hg,c0,c1,c2,c3⟩:=(hF.below E).cell G;subst hA;obtain⟨I,O⟩:=hN j (by rw[d.out];exact G);have B:=λh=>HI (qxk (fs:=fs) (x:=x) (by rw[d.out];exact G) h)
   obtain⟨f,U⟩:∃f,Jj fs j=f:=⟨_,rfl⟩;obtain⟨y,Y⟩:∃y,x j=y:=⟨_,rfl⟩;rw[U] at c0 c1 c2 c3 I O B;rw[Y] at O B;go_wp2_with fail
   have M:Below wr.1.size wr (wr.alloc (.cells #[.pointer (some ⟨f.b,f.o,none⟩),.int .i64 f.wid,.int .i64 f.lo,.int .i64 f.hi] 120)):=Ql;have K:(wr.alloc (.cells #[.pointer (some ⟨f.b,f.o,none⟩),.int .i64 f.wid,.int .i64 f.lo,.int .i64 f.hi] 120)).1[wr.1.size]?=some (.cells #[.pointer (some ⟨f.b,f.o,none⟩),.int .i64 f.wid,.int .i64 f.lo,.int .i64 f.hi] 120 (0,0)):=BE wr _;have Q:wr.1.size<(wr.alloc (.cells #[.pointer (some ⟨f.b,f.o,none⟩),.int .i64 f.wid,.int .i64 f.lo,.int .i64 f.hi] 120)).1.size:=by simp
   generalize wr.alloc (.cells #[.pointer (some ⟨f.b,f.o,none⟩),.int .i64 f.wid,.int .i64 f.lo,.int .i64 f.hi] 120)=J at M K Q ⊢;have q0:∀u:Grown J,u.to.cell? ⟨wr.1.size,0,none⟩=some (.pointer (some ⟨f.b,f.o,none⟩)):=Grown.cell (by rw[cell_of_row _ _ _ _ _ _ K];rfl) Q;have q2:∀u:Grown J,u.to.cell? ⟨wr.1.size,2,none⟩=some (.int .i64 f.lo):=Grown.cell (by rw[cell_of_row _ _ _ _ _ _ K];rfl) Q;have q3:∀u:Grown J,u.to.cell? ⟨wr.1.size,3,none⟩=some (.int .i64 f.hi):=Grown.cell (by rw[cell_of_row _ _ _ _ _ _ K];rfl) Q;have W:f.b<J.1.size:=by have:=E.size;have:=M.size;omega
   have qx:∀u:Grown J,u.to.cell? ⟨f.b,f.o,none⟩=some (.int .i64 y):=Grown.cell ((M.cell (p:=⟨_,_,none⟩) (by have:=E.size;show f.b<_;omega)).trans ((E.cell (p:=⟨_,_,none⟩) I).trans O)) W;have m:=E.trans (M.mono E.size);have Z:=HI U;have Hy:=HI Y;clear c0 c1 c2 c3 K O U Y
   cases P:inF f y
   ·have R:=B P;refine Ug (by kernel_rfl) (by kernel_rfl) ?_;repeat (go_big_quiet_step (first
     |(go_at_call 92;exact Calls.J7 (q6d y f.lo f.hi false P _))
     |fail))
    refine wpQuiet_nil ?_;rintro _ ⟨u,rfl⟩;have F:=m.trans (u.ok.mono m.size);go_wp2;go_ret;exact⟨by rw[R.out];rfl,F⟩
   ·clear B;refine Ug (by kernel_rfl) (by kernel_rfl) ?_;repeat (go_big_quiet_step (first
     |(go_at_call 92;exact Calls.J7 (q6d y f.lo f.hi true P _))
     |fail))
    refine wpQuiet_nil ?_;rintro _ ⟨u,rfl⟩;have F:=m.trans (u.ok.mono m.size);go_wp2;refine⟨⟨j+1,by omega,rfl,λq hq=>?_,F⟩,by simp[intOf];omega⟩;by_cases X:q=j
    ·rw[X,Z.out,Hy.out];exact P
    ·exact D q (by omega)
  ·obtain rfl:j=n:=by omega
   have H:=HI (qur (fs:=fs) (x:=x) (by rw[d.out];exact D));go_wp2;go_ret;exact⟨by rw[H.out];rfl,E⟩
def Dp (fs:List Uo)(x:Nat->Int)(l:LU):Nat->LU
 |0=>l
 |k+1=>Dp fs x l k++Q8 (x k) (Jj fs k).wid.toNat
theorem ql2 {fs:List Uo}{x:Nat->Int}{l:LU}{n:Nat}(d:∀j,j<n->1<=(Jj fs j).wid/\(Jj fs j).wid<=7):∀k,k<=n->(Dp fs x l k).length<=l.length+7*k
 |0,_=>by simp[Dp]
 |k+1,hk=>by
  have:=ql2 (x:=x) (l:=l) d k (by omega);have:=d k (by omega);simp only[Dp,AD,Xz];omega
theorem qxl (fs:List Uo)(x:Nat->Int)(A:OA)(n c:Nat)(B:OA)(m d:Nat)(w:WD)(hF:Uc w A n c fs)(p:Nums w fs x)(u:Gz fs x=false) :
  Calls prog 110 #[.slice B m d,.slice A n c] w λe w'=>e=.returned (.tuple #[.slice none 0 0,.int .i64 1])/\Below w.1.size w w':=by
 have g:=qes fs x A n c w hF p;rw[u] at g;go_enter func110,ntmps110
 go_wp2_with (go_at_call 91;refine g.mono ?_;rintro e y ⟨rfl,f⟩)
 go_ret2;exact⟨rfl,f⟩
def IB (w:WD)(b:Nat)(r:LV):Prop:=∃t,w.1[b]?=some (.cells r.toArray t (0,0))
section
variable {w w':WD}{b:Nat}{r:LV}
theorem IB.new (w:WD)(r:LV)(t:TypeId):IB (w.alloc (.cells r.toArray t)) w.1.size r:=⟨t,BE w _⟩
theorem IB.keep (H:IB w b r)(h:w'.1[b]?=w.1[b]?):IB w' b r:=by
 obtain⟨t,H⟩:=H;exact⟨t,h.trans H⟩
theorem IB.below (H:IB w b r){B:Nat}(hb:Below B w w')(hB:b<B):IB w' b r:=H.keep (hb.block b hB)
theorem IB.lt (H:IB w b r):b<w.1.size:=by
 obtain⟨t,H⟩:=H;exact (Array.getElem?_eq_some_iff.1 H).1
theorem IB.cell (H:IB w b r)(j:Nat){v:Value}(hv:r[j]?=some v):w.cell? ⟨b,j,none⟩=some v:=by
 obtain⟨t,H⟩:=H;rw[cell_of_row _ _ _ _ _ _ H];simpa using hv
theorem IB.range (H:IB w b r):w.rangeAt b 0 r:=λj v d=>by
 rw[AT];exact H.cell j d
theorem IB.fz (H:IB w b r)(j:Nat):w.frozen? ⟨b,j,none⟩=false:=by
 obtain⟨t,H⟩:=H;unfold World.frozen?;rw[H];simp
theorem IB.there (H:IB w b r):w.there b 0 r.length:=λj d=>by
 rw[AT];exact⟨by rw[H.cell j (AC d)];rfl,H.fz j⟩
theorem IB.set (H:IB w b r)(j:Nat)(v:Value):IB (w.setCell ⟨b,j,none⟩ v) b (r.set j v):=by
 obtain⟨t,H⟩:=H;refine⟨t,(D6 v H).trans ?_⟩;rw[List.setIfInBounds_toArray]
theorem qr1 {b:Nat}:∀(vs:LV) (k:Nat) {w:WD} {r:LV},IB w b r->k+vs.length=r.length->IB (w.setCells b k vs) b (r.take k++vs)
 |[],k,w,r,H,hk=>by simp at hk;rw[hk];simpa [World.setCells] using H
 |v::vs,k,w,r,H,hk=>by
  have h1:=qr1 vs (k+1) (H.set k v) (by simp at hk ⊢;omega);have d:k<r.length:=by simp at hk;omega
  have e:(r.set k v).take (k+1)++vs=r.take k++v::vs:=by
   rw[List.take_succ_eq_append_getElem (by simpa using d),List.take_set_of_le (AE k)];simp
  rw[e] at h1;exact h1
theorem IB.all (H:IB w b r)(vs:LV)(h:vs.length=r.length):IB (w.setCells b 0 vs) b vs:=by
 have:=qr1 vs 0 H (by omega);simpa using this
end
def Wq (fs:List Uo):Nat->Nat
 |0=>0
 |k+1=>Wq fs k+(Jj fs k).wid.toNat
def Ce (fs:List Uo)(l:LU)(k:Nat):Int:=Qq ((l.drop (Wq fs k)).take (Jj fs k).wid.toNat)
def Ub (fs:List Uo)(x:Nat->Int)(r:LV):Nat->LV
 |0=>r
 |k+1=>(Ub fs x r k).set (Jj fs k).o (.int .i64 (x k))
def tkF (fs:List Uo)(l:LU):Bool:=decide (l.length=Wq fs fs.length)&&Gz fs (Ce fs l)
theorem qgx (fs:List Uo):∀{a b:Nat},a<=b->Wq fs a<=Wq fs b
 |a,0,h=>by
  obtain rfl:a=0:=by omega
  exact AE _
 |a,b+1,h=>by
  rcases Nat.lt_or_ge a (b+1) with h1|h1
  ·exact AZ (qgx fs (by omega)) (Nat.le_add_right _ _)
  ·obtain rfl:a=b+1:=by omega
   exact AE _
theorem qgy {w w':WD}{base n c:Nat}{e:TypeId}{A:OA}{l:LU}(h:Own w base e A n c l)(p:∀g,base<=g->g<w.1.size->w'.1[g]?=w.1[g]?):Own w' base e A n c l:=by
 refine⟨h.1,?_⟩;rcases h.2 with f|⟨g,cap,d,f,h1,m,r⟩
 ·exact .inl f
 ·exact .inr ⟨g,cap,d,f,h1,(p g h1 (Array.getElem?_eq_some_iff.1 m).1).trans m,r⟩
theorem qb7 (fs:List Uo)(x:Nat->Int)(r:LV):∀k,(Ub fs x r k).length=r.length
 |0=>rfl
 |k+1=>by simp[Ub,qb7 fs x r k]
theorem qr2 (fs:List Uo)(A:OA)(n c:Nat)(p:Nat)(r:LV)(B:OA)(m d:Nat)(l:LU)(w:WD)(hF:Uc w A n c fs)(X:∀g o,A=some ⟨g,o,none⟩->g≠p)
  (hH:IB w p r) (hs:Sl w B m d l) (hm:m<=1000000) (hn:n<=100) (hw:∀j,j<n->1<=(Jj fs j).wid/\(Jj fs j).wid<=7) (ho:∀j,j<n->(Jj fs j).b=p/\(Jj fs j).o<r.length)
  (a8:l.length=Wq fs n->∀j,j<n->(Ub fs (Ce fs l) r n)[(Jj fs j).o]?=some (.int .i64 (Ce fs l j))) :
  Calls prog 55 #[.slice B m d,.slice A n c] w λe w'=>e=.returned (.bool (tkF fs l))/\(∃r',IB w' p r'/\(tkF fs l=true->r'=Ub fs (Ce fs l) r n))/\Turn (λk=>k=p) w w':=by
 have D:=HI hF.len;have Hl:=HI hs.len;have b0:=HI a8;clear a8;obtain⟨b9,b2⟩:=hF.bounds;unfold maxLen at b2;go_enter func55,ntmps55
 go_wp2_with fail
 go_loopw [0,10] (λs i wr=>∃(j:Nat) (B':OA) (J d':Nat),j<=n/\s=.slice B' J d'/\i=.int .i64 (j:Int)/\Sl wr B' J d' (l.drop (Wq fs j))/\Wq fs j<=m/\IB wr p (Ub fs (Ce fs l) r j)/\Turn (λk=>k=p) w wr) (λ_ i _=>n-(intOf i).toNat)
 case atStart=>exact⟨0,B,m,d,AW _,rfl,rfl,by simpa [Wq] using hs,by simp[Wq],hH,Turn.refl _ _⟩
 case round=>
  obtain⟨j,B',J,d',hj,rfl,rfl,a1,hp,H,hT⟩:=hrel;have W:J=m-Wq fs j:=by have:=a1.len;rw[AS,Hl.out] at this;omega
  have Q:=HI W;have d0:J<=1000000:=by omega
  by_cases U:j<n
  ·obtain⟨g,o,hA,hg,c0,c1,c2,c3⟩:=(hF.turn hT X).cell U;have c9:=X g o hA;subst hA;obtain⟨hb,Y⟩:=ho j U;have b7:=hw j U;have M:Wq fs (j+1)=Wq fs j+(Jj fs j).wid.toNat:=rfl;have I:Ub fs (Ce fs l) r (j+1)=(Ub fs (Ce fs l) r j).set (Jj fs j).o (.int .i64 (Ce fs l j)):=rfl;have O:Ce fs l j=(Qq ((l.drop (Wq fs j)).take (Jj fs j).wid.toNat):Int):=rfl;have a7:Wq fs (j+1)<=Wq fs n:=qgx fs (by omega);obtain⟨f,hf⟩:∃f,Jj fs j=f:=⟨_,rfl⟩;rw[hf] at c0 c1 c2 c3 hb Y b7 M I O;rw[hb] at c0;have Hf:=HI hf;have P:=HI I;clear hf hb I W;go_wp2_with fail
   have bx:Below wr.1.size wr (wr.alloc (.cells #[.pointer (some ⟨p,f.o,none⟩),.int .i64 f.wid,.int .i64 f.lo,.int .i64 f.hi] 120)):=Ql;have x0:(wr.alloc (.cells #[.pointer (some ⟨p,f.o,none⟩),.int .i64 f.wid,.int .i64 f.lo,.int .i64 f.hi] 120)).1[wr.1.size]?=some (.cells #[.pointer (some ⟨p,f.o,none⟩),.int .i64 f.wid,.int .i64 f.lo,.int .i64 f.hi] 120 (0,0)):=BE wr _;have zx:wr.1.size<(wr.alloc (.cells #[.pointer (some ⟨p,f.o,none⟩),.int .i64 f.wid,.int .i64 f.lo,.int .i64 f.hi] 120)).1.size:=by simp
   generalize wr.alloc (.cells #[.pointer (some ⟨p,f.o,none⟩),.int .i64 f.wid,.int .i64 f.lo,.int .i64 f.hi] 120)=u at bx x0 zx ⊢;have q0:u.cell? ⟨wr.1.size,0,none⟩=some (.pointer (some ⟨p,f.o,none⟩)):=by rw[cell_of_row _ _ _ _ _ _ x0];rfl
   have q1:u.cell? ⟨wr.1.size,1,none⟩=some (.int .i64 f.wid):=by rw[cell_of_row _ _ _ _ _ _ x0];rfl
   have b3:=H.lt;have H1:=H.below bx b3;have b6:=a1.below bx;have a3:Turn (λk=>k=p) w u:=hT.then (Zb bx);have a6:wr.1.size≠p:=by omega
   clear c0 c1 c2 c3 x0 a1 H hT bx;have R:∀w':WD,Turn (λk=>k=p) u w'->w'.cell? ⟨wr.1.size,0,none⟩=some (.pointer (some ⟨p,f.o,none⟩))/\w'.cell? ⟨wr.1.size,1,none⟩=some (.int .i64 f.wid)/\Turn (λk=>k=p) u w':=λw' T=>⟨(AY (T.block wr.1.size zx a6)).trans q0,(AY (T.block wr.1.size zx a6)).trans q1,T⟩
   have TD:Turn (λk=>k=p) u u.drew:=Zb (AI _ _).drew;by_cases b5:(J:Int)<f.wid
   ·have G:tkF fs l=false:=by
     unfold tkF;rw[AH (by rw[D.out,Hl.out];have:=Q.out;omega),Bool.false_and]
    have HT:=λ(w':WD)=>q82 B' J d' f.wid w' (by omega) (by omega) b5
    have F:=HI G;obtain⟨v,hv⟩:∃v,(Ub fs (Ce fs l) r j)[f.o]?=some v:=⟨_,AC (by rw[qb7];exact Y)⟩;clear G O M a7 hp;have q5:=H1.cell f.o hv;have q6:=H1.fz f.o;clear hv;go_region_held3 (λw'=>w'.cell? ⟨wr.1.size,0,none⟩=some (.pointer (some ⟨p,f.o,none⟩))/\w'.cell? ⟨wr.1.size,1,none⟩=some (.int .i64 f.wid)/\Turn (λk=>k=p) u w')
     (first|assumption|exact R _ TD|(go_split_ands;exact R _ (Turn.then ‹Turn (λk=>k=p) u _› (Zb ‹Below (World.heap _).size _ _›)))|(go_split_ands;exact R _ (Turn.drew (Cc _ rfl)))|exact R _ (Turn.drew (Cc _ rfl)))
     (first
      |(go_at_call 54;refine (HT _).mono ?_;rintro e w3 ⟨rfl,rfl⟩)
      |fail)
    go_wp2;go_ret;refine⟨by rw[F.out];rfl,⟨_,H1.set f.o _,λh=>absurd h (by rw[F.out];exact Bool.false_ne_true)⟩,a3.then (TD.then (Cc _ rfl))⟩
   ·have HT:=λ(w':WD) (h':Sl w' B' J d' (l.drop (Wq fs j)))=>q4a B' J d' (l.drop (Wq fs j)) f.wid w' h' (by omega) (by omega) (by omega) (by omega)
    rw[List.drop_drop,<-M,<-O] at HT;obtain⟨v,hv⟩:∃v,(Ub fs (Ce fs l) r j)[f.o]?=some v:=⟨_,AC (by rw[qb7];exact Y)⟩;have b4:Wq fs (j+1)<=m:=by have:=Q.out;omega
    have b8:=HI (show (l.drop (Wq fs (j+1))).length=m-Wq fs (j+1) by rw[AS,Hl.out]);generalize Ce fs l j=y at HT P;clear O M a7 hp;go_region_held3 (λw'=>w'.cell? ⟨wr.1.size,0,none⟩=some (.pointer (some ⟨p,f.o,none⟩))/\w'.cell? ⟨wr.1.size,1,none⟩=some (.int .i64 f.wid)/\Turn (λk=>k=p) u w')
     (first|assumption|exact R _ TD|(go_split_ands;exact R _ (Turn.then ‹Turn (λk=>k=p) u _› (Zb ‹Below (World.heap _).size _ _›)))|(go_split_ands;exact R _ (Turn.then ‹Turn (λk=>k=p) u _› (Cc _ rfl))))
     (first
      |(go_at_call 54;refine (HT _ b6.drew).mono ?_;rintro e w3 ⟨A3,n3,c3,rfl,Z,K⟩;have a4:Below u.1.size u w3:=(AI _ u).drew.trans K;have H3:=H1.below a4 (by omega);have q5:=H3.cell f.o hv;have q6:=H3.fz f.o)
      |fail)
    clear q5 q6;have T5:Turn (λk=>k=p) w3 (w3.setCell ⟨p,f.o,none⟩ (.int .i64 y)):=Cc _ rfl;have a0:Sl (w3.setCell ⟨p,f.o,none⟩ (.int .i64 y)) A3 n3 c3 (l.drop (Wq fs (j+1))):=(qgy Z λg hg _=>Below.heap_setCell _ _ _ _ (by show g≠p;have h1:u.drew.1.size=u.1.size:=rfl;have:=H1.lt;omega)).sl;have H5:=H3.set f.o (.int .i64 y);rw[<-P.out] at H5;go_wp2;exact⟨⟨j+1,A3,n3,c3,by omega,rfl,rfl,a0,b4,H5,a3.then ((Zb a4).then T5)⟩,by simp[intOf];omega⟩
  ·obtain rfl:j=n:=by omega
   have E:tkF fs l=(decide (J=0)&&Gz fs (Ce fs l)):=by
    unfold tkF;rw[D.out,Hl.out];congr 1
    exact decide_eq_decide.2 (by omega)
   have b1:=hF.turn hT X;clear W;by_cases h0:J=0
   ·have a2:Nums wr fs (Ce fs l):=λq hq=>by
     obtain⟨e1,e2⟩:=ho q (by rw[<-D.out];exact hq);rw[e1];exact⟨H.lt,H.cell _ (b0.out (by rw[Hl.out];have:=Q.out;omega) q (by rw[<-D.out];exact hq))⟩
    have Hm:=qes fs (Ce fs l) A j c wr b1 a2;have a5:tkF fs l=Gz fs (Ce fs l):=by rw[E,AL h0,Bool.true_and]
    have a9:=HI a5;subst h0;clear E a5 a2;go_wp2_with (go_at_call 91;refine Hm.mono ?_;rintro e w3 ⟨rfl,K⟩)
    go_ret;refine⟨by rw[a9.out];rfl,⟨_,H.below K H.lt,λ_=>rfl⟩,hT.then (Zb K)⟩
   ·have G:tkF fs l=false:=by rw[E,AH h0,Bool.false_and]
    have F:=HI G;clear E G;go_wp2;go_ret;refine⟨by rw[F.out];rfl,⟨_,H,λh=>absurd h (by rw[F.out];exact Bool.false_ne_true)⟩,hT⟩
def U2 (b o:Nat):Uo:=⟨b,o,2,1,2047⟩
def Ze (b:Nat):List Uo:=[⟨b,1,2,1,2047⟩]
theorem qxm {w:WD}{b:Nat}{f:Uo}(H:IB w b f.vs):(loadVar 120 ⟨b,0,none⟩).run prog w=.ok (.agg f.vs.toArray) w:=
 run_loadVar_mid w b 0 120 _ _ H.range underlying120 rfl (by kernel_rfl)
theorem qvv {f:Func}{p:Tmp}{ty:TypeId}{g:Addr}{v:Value}{P:Program}{w:WD}{d:Array Value}(h:f.results=#[.cell p ty])(u:d.getD p undef=.pointer (some g))(m:(loadVar ty g).run P w=.ok v w) :
  (results f d).run P w=.ok v w:=by
 have e:(results f d).run P w=((asAddr (d.getD p undef)).run P w).andThen λa y=>(loadVar ty a).run P y:=by
  simp only[results,h];simp[Sem.run_bind,Result.andThen];try rfl
 rw[e,u];simp[asAddr,m]
theorem qet (w:WD)(t:TypeId)(e:Array Value)(fs:List Uo)(n:Nat)(p:e=(fs.map Uo.vs).flatten.toArray)(hn:fs.length=n)(hm:n<=100):Uc (w.alloc (.cells e t)) (some ⟨w.1.size,0,none⟩) n n fs:=by
 have g:∀x∈fs.map Uo.vs,x.length=4:=λx d=>by
  obtain⟨f,_,rfl⟩:=List.mem_map.1 d;rfl
 refine⟨by simpa using hn,AE _,by unfold maxLen;omega,λj x d=>⟨w.1.size,0,rfl,by simp,g x (List.mem_of_getElem? d),λi v u=>?_⟩⟩;have m:=qke g j x d i v u;rw[cell_of_row _ _ _ _ _ _ (BE w _),p,AT];simpa using m
theorem q4b (b o:Nat)(w:WD) :
  Calls prog 56 #[.pointer (some ⟨b,o,none⟩)] w λe w'=>e=.returned (.agg #[.pointer (some ⟨b,o,none⟩),.int .i64 2,.int .i64 1,.int .i64 2047])/\Below w.1.size w w':=by
 go_enter func56,ntmps56
 go_wp2;exact bodyPost_ret (qvv Tryz.results56 rfl (qxm (f:=⟨b,o,2,1,2047⟩) (IB.new w _ _))) rfl ⟨rfl,Ql⟩
theorem q26 (A:OA)(n c:Nat)(r:Bool)(h:decide (1<=n/\n<=24)=r)(w:WD) :
  Calls prog 57 #[.slice A n c] w λe w'=>e=.returned (.bool r)/\w=w':=by
 go_enter func57,ntmps57
 go_wp2_with (go_at_call 92;refine (q6d (n:Int) 1 24 r (by rw[<-h];exact decide_eq_decide.2 (by omega)) w).mono ?_;rintro e d ⟨rfl,rfl⟩)
 go_ret;exact⟨rfl,rfl⟩
theorem Qay (a:Uo)(x:Nat->Int):Gz [a] x=inF a (x 0):=by
 simp[Gz,List.range,List.range.loop,Jj]
theorem q24 {P:Program}{e:Array Oper}{d:List Oper}{o:Oper}{a:Act}{w:WD}{Q:Exit->Act->WD->Prop}(u:o.guard=none)(ty:TypeId)(x y:Operand)(f:o.op=Op.store ty x y)
  (b:Nat) (D:a.eval x=.pointer (some ⟨b,0,none⟩)) (vs:LV) (E:a.eval y=.agg vs.toArray) {r:LV} (H:IB w b r) (m:vs.length=r.length) (hi:(P.info? ty).map (·.size)=some vs.length) (h1:vs.all (·.oneCell')=true)
  (p:∀w',IB w' b vs->Turn (λg=>g=b) w w'->wpList P e Q d (a.put o.dst undef) w'):wpList P e Q (o::d) a w:=
 wpList_store_mid u _ x y f b 0 vs.toArray D E (by have:=H.there;simpa [m] using this) (by simpa using hi) (all_oneCell_toArray (λv B=>(List.all_eq_true.1 h1) v B)) (p _ (H.all vs m) (Us (S:=λg=>g=b) rfl _ 0 w))
theorem qn4 {P:Program}{f:Array Oper}{e:List Oper}{o:Oper}{a:Act}{w:WD}{Q:Exit->Act->WD->Prop}(p:o.guard=none)(ty:TypeId)(x:Operand)(g:o.op=Op.load ty x)
  (b:Nat) (y:a.eval x=.pointer (some ⟨b,0,none⟩)) (vs:LV) (H:IB w b vs) {d:TypeDesc} (u:P.underlying ty=some d) (hd:d.isRow=true) (hi:(P.info? ty).map (·.size)=some vs.length)
  (m:wpList P f Q e (a.put o.dst (.agg vs.toArray)) w):wpList P f Q (o::e) a w:=
 wpList_load_mid p ty x g b 0 y vs d H.range u hd hi m
theorem qd5 {g:Func}{p a:Tmp}{ty:TypeId}{f:Addr}{v:Value}{P:Program}{w:WD}{d:Array Value}(h:g.results=#[.cell p ty,.tmp a])(u:d.getD p undef=.pointer (some f))(m:(loadVar ty f).run P w=.ok v w) :
  (results g d).run P w=.ok (.tuple #[v,d.getD a undef]) w:=by
 have e:(results g d).run P w=((asAddr (d.getD p undef)).run P w).andThen λf y=>((loadVar ty f).run P y).andThen λv B=>.ok (.tuple #[v,d.getD a undef]) B:=by
  simp only[results,h];simp[Sem.run_bind,Result.andThen]
 rw[e,u];simp[asAddr,m]
theorem qus {w:WD}{b:Nat}{x y z:Int}(H:IB w b [.int .i64 x,.int .i64 y,.int .i64 z]):(loadVar 81 ⟨b,0,none⟩).run prog w=.ok (.agg #[.int .i64 x,.int .i64 y,.int .i64 z]) w:=
 run_loadVar_mid w b 0 81 _ _ H.range underlying81 rfl (by kernel_rfl)
theorem q37 (x y:Int)(w:WD):Calls prog 30 #[.int .i64 x,.int .i64 y] w λe w'=>e=.returned (.agg #[.int .i64 x,.int .i64 3,.int .i64 y])/\Below w.1.size w w':=by
 go_enter func30,ntmps30
 go_wp2;exact bodyPost_ret (qvv Tryz.results30 rfl (qus (IB.new w _ _))) rfl ⟨rfl,Ql⟩
theorem qeu {w:WD}{base n c:Nat}{e:TypeId}{A:OA}{l:LU}(h:Own w base e A n c l):∀g,q01 A=some g->base<=g:=λg d=>by
 cases A with
 |none=>cases d
 |some ad=>
  have h2:=h.block ad rfl;have f:ad.block=g:=OI d;omega
theorem qut (fs:List Uo)(x:Nat->Int)(A:OA)(n c:Nat)(B:OA)(m d:Nat)(l:LU)(w:WD)(hF:Uc w A n c fs)(hN:Nums w fs x)(hr:Gz fs x=true)
  (hs:Sl w B m d l) (b0:1<=n) (hm:m<=1000) (hn:n<=100) (hw:∀j,j<n->1<=(Jj fs j).wid/\(Jj fs j).wid<=7) :
  Calls prog 110 #[.slice B m d,.slice A n c] w λe w'=>∃E H I,e=.returned (.tuple #[.slice E H I,.int .i64 0])/\Sl w' E H I (Dp fs x l n)/\(∀g,q01 E=some g->w.1.size<=g)/\Below w.1.size w w':=by
 have Hm:=qes fs x A n c w hF hN;rw[hr] at Hm;have P:=HI hF.len;have Hl:=HI hs.len;obtain⟨a9,a3⟩:=hF.bounds;unfold maxLen at a3;go_enter func110,ntmps110
 go_wp2_with (go_at_call 91;refine Hm.mono ?_;rintro e w1 ⟨rfl,D⟩)
 have Z:=hF.below D;have a1:=hN.below D;have a6:=hs.below D;go_loopw [0,13] (λs i wr=>∃(j:Nat) (E:OA) (H I:Nat),j<=n/\s=.slice E H I/\i=.int .i64 (j:Int)/\Sl wr E H I (Dp fs x l j)/\(j=0\/∀g,q01 E=some g->w.1.size<=g)/\Below w1.1.size w1 wr) (λ_ i _=>n-(intOf i).toNat)
 case atStart=>exact⟨0,B,m,d,AW _,rfl,rfl,a6,.inl rfl,AI _ _⟩
 case round=>
  obtain⟨j,E,H,I,hj,rfl,rfl,G,a0,O⟩:=hrel;by_cases M:j<n
  ·obtain⟨g,o,hA,hg,c0,c1,c2,c3⟩:=(Z.below O).cell M;subst hA;obtain⟨T,W⟩:=a1 j (by rw[P.out];exact M);have a8:=hw j M;have R:=ql2 (x:=x) (l:=l) hw j hj;have F:G5 (Dp fs x l j) (x j) (Jj fs j).wid=Dp fs x l (j+1):=by unfold G5;rw[AA (by omega)];rfl
   have a4:=G.len;obtain⟨f,hf⟩:∃f,Jj fs j=f:=⟨_,rfl⟩;obtain⟨y,hy⟩:∃y,x j=y:=⟨_,rfl⟩;rw[hf] at c0 c1 c2 c3 T W a8 F;rw[hy] at W F;have a5:H<=17592186044416:=by rw[Hl.out] at R;omega
   have Y:=HI F;clear hf hy F R a4;go_wp2_with fail
   have U:Below wr.1.size wr (wr.alloc (.cells #[.pointer (some ⟨f.b,f.o,none⟩),.int .i64 f.wid,.int .i64 f.lo,.int .i64 f.hi] 120)):=Ql;have X:(wr.alloc (.cells #[.pointer (some ⟨f.b,f.o,none⟩),.int .i64 f.wid,.int .i64 f.lo,.int .i64 f.hi] 120)).1[wr.1.size]?=some (.cells #[.pointer (some ⟨f.b,f.o,none⟩),.int .i64 f.wid,.int .i64 f.lo,.int .i64 f.hi] 120 (0,0)):=BE wr _;have zx:wr.1.size<(wr.alloc (.cells #[.pointer (some ⟨f.b,f.o,none⟩),.int .i64 f.wid,.int .i64 f.lo,.int .i64 f.hi] 120)).1.size:=by simp
   generalize wr.alloc (.cells #[.pointer (some ⟨f.b,f.o,none⟩),.int .i64 f.wid,.int .i64 f.lo,.int .i64 f.hi] 120)=J at U X zx ⊢;have q0:J.cell? ⟨wr.1.size,0,none⟩=some (.pointer (some ⟨f.b,f.o,none⟩)):=by rw[cell_of_row _ _ _ _ _ _ X];rfl
   have q1:J.cell? ⟨wr.1.size,1,none⟩=some (.int .i64 f.wid):=by rw[cell_of_row _ _ _ _ _ _ X];rfl
   have qx:J.cell? ⟨f.b,f.o,none⟩=some (.int .i64 y):=(U.cell (p:=⟨_,_,none⟩) (by have:=O.size;show f.b<_;omega)).trans ((O.cell (p:=⟨_,_,none⟩) T).trans W);have K:=O.trans (U.mono O.size);have a7:=G.below U;clear c0 c1 c2 c3 X W G;go_still_tail 7,(by kernel_rfl)
   change wpList _ _ _ _ _ J.drew;go_wp2_with (go_at_call 65;refine (q7r E H I (Dp fs x l j) y f.wid _ a7.drew a5).mono ?_;rintro e w3 ⟨A3,n3,c3,rfl,u,a2⟩)
   rw[Y.out] at u;have Q:Below J.1.size J w3:=(AI _ _).drew.trans a2;exact⟨⟨j+1,A3,n3,c3,by omega,rfl,rfl,u.sl,.inr (λg hg=>by have:=qeu u g hg;have h1:=K.size;have h2:=D.size;have h3:J.drew.1.size=J.1.size:=rfl;omega),K.trans (Q.mono K.size)⟩,by simp[intOf];omega⟩
  ·obtain rfl:j=n:=by omega
   go_wp2;go_ret2;exact⟨E,H,I,rfl,G,a0.resolve_left (by omega),D.trans (O.mono D.size)⟩
def Y4 (l:LU)(a:Int):Bool:=decide ((l.length=0/\1<=a/\a<=2047)\/(a=0/\1<=l.length/\l.length<=24))
def q0n (l:LU)(a:Int):LU:=if l.length=0 then 1::Q8 a 2 else 0::l
def J4 (l:LU):Int:=if Xr l 0=1 then Qq (l.drop 1) else 0
def Vq (l:LU):LU:=if Xr l 0=1 then [] else l.drop 1
def Yl (l:LU):Bool:=decide ((Xr l 0=1/\l.length=3/\1<=Qq (l.drop 1)/\Qq (l.drop 1)<=2047)\/(Xr l 0=0/\2<=l.length/\l.length<=25))
theorem qz5 (b:Nat)(l:LU):tkF (Ze b) l=decide (l.length=2/\1<=Qq l/\Qq l<=2047):=by
 have h1:Wq (Ze b) (Ze b).length=2:=rfl;have h2:Ce (Ze b) l 0=(Qq (l.take 2):Int):=rfl;unfold tkF;rw[h1];by_cases h:l.length=2
 ·rw[AL h,Bool.true_and];unfold Ze at h2 ⊢;rw[Qay,h2,AN (by omega)];unfold inF;dsimp only;exact decide_eq_decide.2 (by omega)
 ·rw[AH h,Bool.false_and];exact (AH (λd=>h d.1)).symm
theorem qr3 (b j:Nat)(d:j<1):1<=(Jj (Ze b) j).wid/\(Jj (Ze b) j).wid<=7:=by
 obtain rfl:j=0:=by omega
 simp[Jj,Ze]
theorem qxn (b j:Nat)(r:LV)(d:r.length=2)(e:j<1):(Jj (Ze b) j).b=b/\(Jj (Ze b) j).o<r.length:=by
 obtain rfl:j=0:=by omega
 rw[d];simp[Jj,Ze]
theorem qxo (b:Nat)(l:LU)(x y:Value):Ub (Ze b) (Ce (Ze b) l) [x,y] 1=[x,.int .i64 (Ce (Ze b) l 0)]:=rfl
theorem qr4 (b:Nat)(l:LU)(x y:Value)(j:Nat)(d:j<1):(Ub (Ze b) (Ce (Ze b) l) [x,y] 1)[(Jj (Ze b) j).o]?=some (.int .i64 (Ce (Ze b) l j)):=by
 obtain rfl:j=0:=by omega
 rfl
theorem ql3 {w:WD}{b:Nat}{x:Value}{a:Int}(H:IB w b [x,.int .i64 a]):Nums w (Ze b) (λ_=>a):=λj d=>by
 obtain rfl:j=0:=by simp[Ze] at d;omega
 exact⟨H.lt,H.cell 1 rfl⟩
theorem qxp (b:Nat)(a:Int)(l:LU)(h:l.length=0):Gz (Ze b) (λ_=>a)=Y4 l a:=by
 unfold Ze;rw[Qay];unfold inF Y4;dsimp only;exact decide_eq_decide.2 (by omega)
theorem q5m {w:WD}{b:Nat}{A:OA}{n c:Nat}{a:Int}(H:IB w b [.slice A n c,.int .i64 a]):(loadVar 53 ⟨b,0,none⟩).run prog w=.ok (.agg #[.slice A n c,.int .i64 a]) w:=
 run_loadVar_mid w b 0 53 _ _ H.range underlying53 rfl (by kernel_rfl)
def q3a (w:WD)(l:LU)(a:Int)(e:Ending)(w':WD):Prop:=
 (Y4 l a=false->e=.returned (.tuple #[.slice none 0 0,.int .i64 1]))/\(Y4 l a=true->∃A n c,e=.returned (.tuple #[.slice A n c,.int .i64 0])/\Sl w' A n c (q0n l a)/\∀g,q01 A=some g->w.1.size<=g)/\Below w.1.size w w'
theorem q3a.no {w w':WD}{l:LU}{a:Int}(h:Y4 l a=false)(hb:Below w.1.size w w'):q3a w l a (.returned (.tuple #[.slice none 0 0,.int .i64 1])) w':=
 ⟨λ_=>rfl,λh2=>absurd (h.symm.trans h2) Bool.false_ne_true,hb⟩
theorem q3a.yes {w w':WD}{l:LU}{a:Int}{A:OA}{n c:Nat}(h:Y4 l a=true)(hs:Sl w' A n c (q0n l a))(hg:∀g,q01 A=some g->w.1.size<=g)(hb:Below w.1.size w w'):q3a w l a (.returned (.tuple #[.slice A n c,.int .i64 0])) w':=
 ⟨λh2=>absurd (h2.symm.trans h) Bool.false_ne_true,λ_=>⟨A,n,c,rfl,hs,hg⟩,hb⟩
theorem Fp {a b c:WD}(h:Below a.1.size a b)(k:Below b.1.size b c):Below a.1.size a c:=h.trans (k.mono h.size)
theorem q5x (A:OA)(n c:Nat)(l:LU)(a:Int)(w:WD)(W:Sl w A n c l)(hn:n<=1000000) :
  Calls prog 83 #[.agg #[.slice A n c,.int .i64 a]] w λe w'=>q3a w l a e w':=by
 have J:IB (w.alloc (.cells [Value.slice A n c,.int .i64 a].toArray 53)) w.1.size [.slice A n c,.int .i64 a]:=IB.new w _ _;have B:Below w.1.size w (w.alloc (.cells [Value.slice A n c,.int .i64 a].toArray 53)):=Ql;have D:=W.len;have Hl:=HI D;by_cases h0:n=0
 ·subst h0;have K:=qxp w.1.size a l D;have G:q0n l a=Dp (Ze w.1.size) (λ_=>a) [1] 1:=by unfold q0n;rw[AA D];rfl
  have O:=HI G;have H:=(qnz (w.alloc (.cells [Value.slice A 0 c,.int .i64 a].toArray 53)) 5 1 (.int .u8 1) rfl).sl;rw[BH] at H;clear D G
  cases hm:Y4 l a
  ·rw[hm] at K;have P:=HI hm;clear hm;go_enter func83,ntmps83
   go_wp2_with (first
    |(go_at_call 56;refine (q4b w.1.size 1 _).mono ?_;rintro e I ⟨rfl,d⟩;have E:=(J.below (Ql) J.lt).below d (by simp;omega);have M:=E.below ((AI _ _).alloc (AE _) (.cells (U2 w.1.size 1).vs.toArray 120)) E.lt)
    |(go_at_call 110;refine (qxl (Ze w.1.size) (λ_=>a) _ _ _ _ _ _ _ (qet I _ _ (Ze w.1.size) 1 rfl rfl (by omega)) (ql3 M) K).mono ?_;rintro e X ⟨rfl,f⟩))
   go_ret2;exact q3a.no P.out (Fp (Fp (Fp B Ql) d) (Fp Ql f))
  ·rw[hm] at K;have P:=HI hm;clear hm;go_enter func83,ntmps83
   go_wp2_with (first
    |(go_at_call 56;refine (q4b w.1.size 1 _).mono ?_;rintro e I ⟨rfl,d⟩;have E:=(J.below (Ql) J.lt).below d (by simp;omega);have M:=E.below ((AI _ _).alloc (AE _) (.cells (U2 w.1.size 1).vs.toArray 120)) E.lt;have s3:=(H.below d).alloc (.cells (U2 w.1.size 1).vs.toArray 120))
    |(go_at_call 110;refine (qut (Ze w.1.size) (λ_=>a) _ _ _ _ _ _ [1] _ (qet I _ _ (Ze w.1.size) 1 rfl rfl (by omega)) (ql3 M) K s3 (by omega) (by omega) (by omega) (qr3 _)).mono ?_;rintro e X ⟨Y,n4,c4,rfl,T,R,f⟩))
   go_ret2;exact q3a.yes P.out (by rw[O.out];exact T) (λg Q=>by have h1:=R g Q;have h2:=(Fp (Fp B Ql) d).size;rw[BH] at h1;omega) (Fp (Fp (Fp B Ql) d) (Fp Ql f))
 ·have n0:((n:Int)==0)=false:=by simp;omega
  have n1:decide ((n:Int)=0)=false:=AH (by omega);by_cases U:a=0
  ·subst U
   cases hm:decide (1<=n/\n<=24)
   ·have m:Y4 l 0=false:=by
     have:=of_decide_eq_false hm;exact AH (by omega)
    have y:=HI m;clear m D;go_enter func83,ntmps83
    go_wp2_with (go_at_call 57;refine (q26 A n c false hm _).mono ?_;rintro e I ⟨rfl,rfl⟩)
    go_ret2;exact q3a.no y.out B
   ·have p:Y4 l 0=true:=by
     have:=AK hm;exact AL (by omega)
    have G:q0n l 0=[0]++l:=by unfold q0n;rw[AB (by omega)];rfl
    have O:=HI G;have F:=HI p;have H:=qnz (w.alloc (.cells [Value.slice A n c,.int .i64 0].toArray 53)) 5 0 (.int .u8 0) rfl;rw[BH] at H;have Z:=W.below (Fp B (Ql (o:=.cells #[.int .u8 0] 5)));clear p D G;go_enter func83,ntmps83
    go_wp2_with (first
     |(go_at_call 57;refine (q26 A n c true hm _).mono ?_;rintro e I ⟨rfl,rfl⟩)
     |(at_builtin;refine q5z _ Cb rfl _ _ rfl _ _ _ _ [0] rfl H _ _ _ l rfl Z (by omega) (by simp) ?_;intro Y c4 X u f))
    go_ret2;exact q3a.yes F.out (by rw[O.out];exact u.sl) (λg Q=>by have:=qeu u g Q;omega) (B.trans (((AI _ _).alloc (by simp) _).trans (f.mono (by simp))))
  ·have m:Y4 l a=false:=AH (by omega);have y:=HI m;have a0:(a==0)=false:=by simp;omega
   have a1:decide (a=0)=false:=AH U;clear m D;go_enter func83,ntmps83
   go_wp2;go_ret2;exact q3a.no y.out B
def Tt (w:WD)(l:LU)(e:Ending)(w':WD):Prop:=
 (Yl l=false->e=.returned (.tuple #[.agg #[.slice none 0 0,.int .i64 0],.int .i64 3]))/\(Yl l=true->∃A n c,e=.returned (.tuple #[.agg #[.slice A n c,.int .i64 (J4 l)],.int .i64 0])/\Sl w' A n c (Vq l)/\∀g,q01 A=some g->w.1.size<=g)/\Below w.1.size w w'
theorem Tt.no {w w':WD}{l:LU}(h:Yl l=false)(hb:Below w.1.size w w'):Tt w l (.returned (.tuple #[.agg #[.slice none 0 0,.int .i64 0],.int .i64 3])) w':=
 ⟨λ_=>rfl,λh2=>absurd (h.symm.trans h2) Bool.false_ne_true,hb⟩
theorem Tt.yes {w w':WD}{l:LU}{a:Int}{A:OA}{n c:Nat}(h:Yl l=true)(ha:J4 l=a)(hs:Sl w' A n c (Vq l))(hg:∀g,q01 A=some g->w.1.size<=g)(hb:Below w.1.size w w'):Tt w l (.returned (.tuple #[.agg #[.slice A n c,.int .i64 a],.int .i64 0])) w':=
 ⟨λh2=>absurd (h2.symm.trans h) Bool.false_ne_true,λ_=>⟨A,n,c,by rw[ha],hs,hg⟩,hb⟩
def xz:LV:=[.slice none 0 0,.int .i64 0]
theorem qxq (l:LU)(h:1<=l.length):Qq (l.take 1)=Xr l 0:=by
 match l,h with
 |x::l,_=>simp[Qq,Xr]
theorem qb8 (B:OA)(m d:Nat)(l:LU)(w:WD)(hs:Sl w B m d l)(hm:m<=1000000) :
  Calls prog 31 #[.slice B m d] w λe w'=>Tt w l e w':=by
 have R1:IB (w.alloc (.cells xz.toArray 53)) w.1.size xz:=IB.new w _ _;have b1:Below w.1.size w (w.alloc (.cells xz.toArray 53)):=Ql;have hl:=hs.len;go_enter func31,ntmps31
 go_wp2_with fail
 change Calls _ _ _ (w.alloc (.cells xz.toArray 53)) _;generalize w.alloc (.cells xz.toArray 53)=w1 at R1 b1 ⊢;have s1:=hs.below b1;by_cases h0:m=0
 ·have J:Yl l=false:=AH (by omega);have y:=HI J;subst h0;clear J hl;refine (q82 B 0 d 1 w1 (by omega) (by omega) (by omega)).mono ?_;rintro e p ⟨rfl,rfl⟩;go_wp2_with (refine q24 rfl _ _ _ rfl w.1.size rfl xz rfl R1 rfl (by kernel_rfl) rfl ?_;intro O R4 T4)
  refine bodyPost_ret (qd5 Tryz.results31 rfl (q5m R4)) rfl (Tt.no y.out ?_);exact b1.trans (T4.below (λx K=>by omega) b1.size)
 ·have a4:=qxq l (by omega);refine (q4a B m d l 1 w1 s1 (by omega) (by omega) (by omega) (by omega)).mono ?_;rw[show (1:Int).toNat=1 from rfl,a4];rintro e p ⟨A2,Q,c2,rfl,M,a0⟩;have U:Q=m-1:=by have:=M.len;rw[AS] at this;omega
  have R2:=R1.below a0 R1.lt;have B2:=Fp b1 a0;have H2:IB (p.alloc (.cells xz.toArray 53)) p.1.size xz:=IB.new p _ _;have H:Below p.1.size p (p.alloc (.cells xz.toArray 53)):=Ql;have E:=R2.lt;have s2:=M.sl;have Hl:=HI hl;have b7:=HI U;have a9:Q<=1000000:=by omega
  have b2:=R1.lt;have a3:=HI b1.size;clear R1 b1 a0 a4;have a1:Xr l 0=1\/Xr l 0≠1:=by omega
  rcases a1 with I|I
  ·rw[I];have hA:=HI (show J4 l=(Qq (l.drop 1):Int) by unfold J4;rw[AA I]);have hL:=HI (show Vq l=[] by unfold Vq;rw[AA I]);have u:Yl l=tkF (Ze p.1.size) (l.drop 1):=by
    rw[qz5];unfold Yl;exact decide_eq_decide.2 (by rw[AS];omega)
   clear U hl;go_wp2_with fail
   change Calls _ _ _ (p.alloc (.cells xz.toArray 53)) _;generalize p.alloc (.cells xz.toArray 53)=w3 at H2 H ⊢;refine (q4b p.1.size 1 w3).mono ?_;rintro e O ⟨rfl,D⟩;have R4:=(R2.below H E).below D (Nat.lt_of_lt_of_le E H.size);have H4:=H2.below D H2.lt;have s4:=(s2.below H).below D;have B4:=Fp (Fp B2 H) D;have z4:=D.size;have z3:=H.size;have b5:Below O.1.size O (O.alloc (.cells (U2 p.1.size 1).vs.toArray 120)):=Ql;have R5:=R4.below b5 R4.lt;have H5:=H4.below b5 H4.lt;have s5:=s4.below b5;have X:=Fp B4 b5;have hF:Uc (O.alloc (.cells (U2 p.1.size 1).vs.toArray 120)) (some ⟨O.1.size,0,none⟩) 1 1 (Ze p.1.size):=qet O _ _ (Ze p.1.size) 1 rfl rfl (by omega);have a8:p.1.size<O.1.size:=by have:=H2.lt;omega
   go_wp2_with fail
   change Calls _ _ _ (O.alloc (.cells (U2 p.1.size 1).vs.toArray 120)) _;generalize O.alloc (.cells (U2 p.1.size 1).vs.toArray 120)=w5 at b5 R5 H5 s5 X hF ⊢;have Y:=qr2 (Ze p.1.size) (some ⟨O.1.size,0,none⟩) 1 1 p.1.size xz A2 Q c2 (l.drop 1) w5 hF (λg' o e=>by injection e with e;injection e with e1;omega) H5 s5 a9 (by omega) (qr3 _) (λj hj=>qxn _ j _ rfl hj) (λ_ j hj=>qr4 _ _ _ _ j hj);rw[xz,qxo,<-u] at Y;have a5:¬(w.1.size=p.1.size):=by omega
   have a2:=HI E;have Hf:=HI I;clear R4 H4 s4 B4 D hF z3 z4 a8 E I b5 H5 s5
   cases F:Yl l
   ·rw[F] at Y;have y:=HI F;clear u F;refine Y.mono ?_;rintro e w6 ⟨rfl,-,Z⟩;have R6:=R5.keep (Z.block _ R5.lt a5);go_wp2_with (first
     |(refine q24 rfl _ _ _ rfl w.1.size rfl xz rfl R6 rfl (by kernel_rfl) rfl ?_;intro w7 R P))
    refine bodyPost_ret (qd5 Tryz.results31 rfl (q5m R)) rfl (Tt.no y.out ?_);exact X.trans ((Z.below (B:=w.1.size) (λx K=>by have:=a2.out;omega) X.size).trans (P.below (λx K=>by omega) (AZ X.size Z.size)))
   ·rw[F] at Y;have G:=HI F;have e3:(l.drop 1).length=2:=by
     have:=AK F;rw[AS];have:=Hl.out;have:=Hf.out;omega
    have ex:Ce (Ze p.1.size) (l.drop 1) 0=J4 l:=by
     rw[hA.out];show (Qq ((l.drop 1).take 2):Int)=_;rw[AN (by omega)]
    rw[ex] at Y;obtain⟨x,K⟩:∃x,J4 l=x:=⟨_,rfl⟩;rw[K] at Y;have Hx:=HI K;clear u F ex K e3;refine Y.mono ?_;rintro e w6 ⟨rfl,⟨r',H6,b0⟩,Z⟩;obtain rfl:=b0 rfl;have R6:=R5.keep (Z.block _ R5.lt a5);go_wp2_with (first
     |(refine qn4 rfl _ _ rfl p.1.size rfl _ H6 underlying53 rfl (by kernel_rfl) ?_)
     |(refine q24 rfl _ _ _ rfl w.1.size rfl [.slice none 0 0,.int .i64 x] rfl R6 rfl (by kernel_rfl) rfl ?_;intro w7 R P))
    refine bodyPost_ret (qd5 Tryz.results31 rfl (q5m R)) rfl (Tt.yes G.out Hx.out (by rw[hL.out];exact G6 _) (λ_ h=>by cases h) ?_);exact X.trans ((Z.below (B:=w.1.size) (λx K=>by have:=a2.out;omega) X.size).trans (P.below (λx K=>by omega) (AZ X.size Z.size)))
  ·obtain⟨f,T⟩:∃f,Xr l 0=f:=⟨_,rfl⟩;have hA:=HI (show J4 l=0 by unfold J4;rw[AB I]);have hL:=HI (show Vq l=l.drop 1 by unfold Vq;rw[AB I]);have b6:=HI T;rw[T] at I ⊢;have f1:((f:Int)==1)=false:=by simp;omega
   have f2:decide ((f:Int)=1)=false:=AH (by omega);by_cases a6:f=0
   ·subst a6;have u:Yl l=decide (1<=Q/\Q<=24):=by
     unfold Yl;exact decide_eq_decide.2 (by omega)
    have b4:=Fp B2 H;have R3:=R2.below H E;have W:=M.below H;clear T I f1 f2 U hl
    cases F:decide (1<=Q/\Q<=24)
    ·have y:=HI (u.trans F);clear u;go_wp2_with (first
      |(go_at_call 57;refine (q26 A2 Q c2 false F _).mono ?_;rintro e w5 ⟨rfl,rfl⟩)
      |(refine q24 rfl _ _ _ rfl w.1.size rfl xz rfl R3 rfl (by kernel_rfl) rfl ?_;intro w7 R P))
     refine bodyPost_ret (qd5 Tryz.results31 rfl (q5m R)) rfl (Tt.no y.out ?_);exact b4.trans (P.below (λx K=>by omega) b4.size)
    ·have G:=HI (u.trans F);clear u;go_wp2_with (first
      |(go_at_call 57;refine (q26 A2 Q c2 true F _).mono ?_;rintro e w5 ⟨rfl,rfl⟩)
      |(refine q24 rfl _ _ _ rfl w.1.size rfl [.slice A2 Q c2,.int .i64 0] rfl R3 rfl (by kernel_rfl) rfl ?_;intro w7 R P))
     refine bodyPost_ret (qd5 Tryz.results31 rfl (q5m R)) rfl (Tt.yes G.out hA.out ?_ (λg hg=>by have:=qeu W g hg;have:=a3.out;omega) ?_)
     ·rw[hL.out];exact (qgy W λg hg a7=>P.block g a7 (by show ¬(g=w.1.size);omega)).sl
     ·exact b4.trans (P.below (λx K=>by omega) b4.size)
   ·have J:Yl l=false:=AH (by omega);have y:=HI J;have f3:((f:Int)==0)=false:=by simp;omega
    have f4:decide ((f:Int)=0)=false:=AH (by omega);have b4:=Fp B2 H;have R3:=R2.below H E;clear J T I U hl;go_wp2_with (refine q24 rfl _ _ _ rfl w.1.size rfl xz rfl R3 rfl (by kernel_rfl) rfl ?_;intro w7 R P)
    refine bodyPost_ret (qd5 Tryz.results31 rfl (q5m R)) rfl (Tt.no y.out ?_);exact b4.trans (P.below (λx K=>by omega) b4.size)
theorem ql4 (l:LU)(a:Int)(h:Y4 l a=true):Yl (q0n l a)=true/\J4 (q0n l a)=a/\Vq (q0n l a)=l:=by
 have hm:=AK h;by_cases h0:l.length=0
 ·have e:q0n l a=1::Q8 a 2:=by unfold q0n;rw[AA h0]
  have d:Xr (1::Q8 a 2) 0=1:=rfl;have hn:(Qq (Q8 a 2):Int)=a:=q6s a 2 (by omega) (by omega);rw[e];unfold Yl J4 Vq;rw[d,AA rfl,AA rfl];refine⟨AL (.inl ⟨rfl,by simp[Xz],?_,?_⟩),hn,(BF h0).symm⟩
  ·show 1<=Qq (Q8 a 2);omega
  ·show Qq (Q8 a 2)<=2047;omega
 ·have e:q0n l a=0::l:=by unfold q0n;rw[AB h0]
  have d:Xr (0::l) 0=0:=rfl;rw[e];unfold Yl J4 Vq;rw[d,AB (by omega),AB (by omega)];exact⟨AL (.inr ⟨rfl,by simp;omega,by simp;omega⟩),by omega,rfl⟩
