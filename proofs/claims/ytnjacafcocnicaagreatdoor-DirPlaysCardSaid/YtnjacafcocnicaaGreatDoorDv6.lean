/- Inode's fields as rows in memory: where each number lies, its width, what it may be; wheth -/
import Derived.Test.YtnjacafcocnicaaGreatDoorDv3
import Derived.Test.YtnjacafcocnicaaGreatDoorDv5
import Derived.Deep.RegionHeld3
import Derived.BigRegion
import Derived.StillTailTactics
namespace Go.Proofs.YtnjacafcocnicaaGreatDoor
open Go Go.RowKit Go.Proofs Tryz
set_option maxHeartbeats 4000000
set_option maxRecDepth 10000
structure Gi where
 b:Nat
 o:Nat
 wid:Int
 lo:Int
 hi:Int
def Gi.vs (f:Gi):LV:=[.pointer (some ⟨f.b,f.o,none⟩),.int .i64 f.wid,.int .i64 f.lo,.int .i64 f.hi]
def Ur (w:WD)(A:OA)(n c:Nat)(fs:List Gi):Prop:=Jp w 4 A n c (fs.map Gi.vs)
def Jh (fs:List Gi)(j:Nat):Gi:=fs.getD j ⟨0,0,0,0,0⟩
section
variable {w w':WD}{n c:Nat}{A:OA}{fs:List Gi}
theorem Ur.len (h:Ur w A n c fs):fs.length=n:=by have:=Jp.len h;simpa using this
theorem Ur.bounds (h:Ur w A n c fs):n<=c/\c<=maxLen:=⟨Jp.cap h,Jp.max h⟩
theorem Ur.below (h:Ur w A n c fs)(hb:Below w.1.size w w'):Ur w' A n c fs:=Jp.below h hb
theorem Ur.turn {b:Nat}(h:Ur w A n c fs)(ht:Turn (λk=>k=b) w w')(hne:∀g o,A=some ⟨g,o,none⟩->g≠b):Ur w' A n c fs:=
 Jp.keep h ht.size λg o e f=>ht.block g f (hne g o e)
theorem Ur.cell (h:Ur w A n c fs){j:Nat}(hj:j<n):∃g o,A=some ⟨g,o,none⟩/\g<w.1.size/\w.cell? ⟨g,o+j*4,none⟩=some (.pointer (some ⟨(Jh fs j).b,(Jh fs j).o,none⟩))/\
  w.cell? ⟨g,o+j*4+1,none⟩=some (.int .i64 (Jh fs j).wid)/\w.cell? ⟨g,o+j*4+2,none⟩=some (.int .i64 (Jh fs j).lo)/\w.cell? ⟨g,o+j*4+3,none⟩=some (.int .i64 (Jh fs j).hi):=by
 have p:j<fs.length:=by have:=h.len;omega
 obtain⟨g,o,rfl,m,_,f⟩:=Jp.at_ h hj;have e:(fs.map Gi.vs).getD j []=(Jh fs j).vs:=by unfold Jh;simp[List.getD,p]
 rw[e] at f;exact⟨g,o,rfl,m,f 0 _ rfl,f 1 _ rfl,f 2 _ rfl,f 3 _ rfl⟩
end
def Nums (w:WD)(fs:List Gi)(x:Nat->Int):Prop:=∀j,j<fs.length->(Jh fs j).b<w.1.size/\w.cell? ⟨(Jh fs j).b,(Jh fs j).o,none⟩=some (.int .i64 (x j))
theorem Nums.below {w w':WD}{fs:List Gi}{x:Nat->Int}(h:Nums w fs x)(hb:Below w.1.size w w'):Nums w' fs x:=λj e=>by
 obtain⟨h1,h2⟩:=h j e;exact⟨Nat.lt_of_lt_of_le h1 hb.size,(hb.cell (p:=⟨_,_,none⟩) h1).trans h2⟩
def inF (f:Gi)(x:Int):Bool:=decide (f.lo<=x/\x<=f.hi)
def Bc (fs:List Gi)(x:Nat->Int):Bool:=(List.range fs.length).all λj=>inF (Jh fs j) (x j)
theorem qB6 {fs:List Gi}{x:Nat->Int}{j:Nat}(e:j<fs.length)(h:inF (Jh fs j) (x j)=false):Bc fs x=false:=by
 unfold Bc;rw[List.all_eq_false];exact⟨j,List.mem_range.2 e,by rw[h];simp⟩
theorem qxv {fs:List Gi}{x:Nat->Int}(h:∀j,j<fs.length->inF (Jh fs j) (x j)=true):Bc fs x=true:=by
 unfold Bc;rw[List.all_eq_true];exact λj e=>h j (List.mem_range.1 e)
theorem q6o (x a b:Int)(r:Bool)(h:decide (a<=x/\x<=b)=r)(w:WD) :
  Calls prog 122 #[.int .i64 x,.int .i64 a,.int .i64 b] w λe w'=>e=.returned (.bool r)/\w=w':=by
 subst h;go_enter func122,ntmps122
 go_wp2;all_goals
  go_ret;refine⟨congrArg (λx=>Ending.returned (Value.bool x)) ?_,rfl⟩;first
   |exact (AH (by omega)).symm
   |exact decide_eq_decide.2 (by omega)
   |(rw[Bool.eq_iff_iff];simp;omega)
theorem qfp (fs:List Gi)(x:Nat->Int)(A:OA)(n c:Nat)(w:WD)(hF:Ur w A n c fs)(hN:Nums w fs x) :
  Calls prog 125 #[.slice A n c] w λe w'=>e=.returned (.bool (Bc fs x))/\Below w.1.size w w':=by
 have m:=HI hF.len;obtain⟨a1,U⟩:=hF.bounds;unfold maxLen at U;go_enter func125,ntmps125
 go_wp2_with fail
 go_loopw [7] (λi wr=>∃j:Nat,j<=n/\i=.int .i64 (j:Int)/\(∀q,q<j->inF (Jh fs q) (x q)=true)/\Below w.1.size w wr) (λi _=>n-(intOf i).toNat)
 case atStart=>exact⟨0,AW _,rfl,λq hq=>by omega,AI _ _⟩
 case round=>
  obtain⟨j,hj,rfl,E,F⟩:=hrel;by_cases H:j<n
  ·obtain⟨g,o,hA,hg,c0,c1,c2,c3⟩:=(hF.below F).cell H;subst hA;obtain⟨J,P⟩:=hN j (by rw[m.out];exact H);have D:=λh=>HI (qB6 (fs:=fs) (x:=x) (by rw[m.out];exact H) h)
   obtain⟨f,V⟩:∃f,Jh fs j=f:=⟨_,rfl⟩;obtain⟨y,Y⟩:∃y,x j=y:=⟨_,rfl⟩;rw[V] at c0 c1 c2 c3 J P D;rw[Y] at P D;go_wp2_with fail
   have O:Below wr.1.size wr (wr.alloc (.cells #[.pointer (some ⟨f.b,f.o,none⟩),.int .i64 f.wid,.int .i64 f.lo,.int .i64 f.hi] 206)):=Qi;have M:(wr.alloc (.cells #[.pointer (some ⟨f.b,f.o,none⟩),.int .i64 f.wid,.int .i64 f.lo,.int .i64 f.hi] 206)).1[wr.1.size]?=some (.cells #[.pointer (some ⟨f.b,f.o,none⟩),.int .i64 f.wid,.int .i64 f.lo,.int .i64 f.hi] 206 (0,0)):=BE wr _;have R:wr.1.size<(wr.alloc (.cells #[.pointer (some ⟨f.b,f.o,none⟩),.int .i64 f.wid,.int .i64 f.lo,.int .i64 f.hi] 206)).1.size:=by simp
   generalize wr.alloc (.cells #[.pointer (some ⟨f.b,f.o,none⟩),.int .i64 f.wid,.int .i64 f.lo,.int .i64 f.hi] 206)=K at O M R ⊢;have q0:∀u:Grown K,u.to.cell? ⟨wr.1.size,0,none⟩=some (.pointer (some ⟨f.b,f.o,none⟩)):=Grown.cell (by rw[cell_of_row _ _ _ _ _ _ M];rfl) R;have q2:∀u:Grown K,u.to.cell? ⟨wr.1.size,2,none⟩=some (.int .i64 f.lo):=Grown.cell (by rw[cell_of_row _ _ _ _ _ _ M];rfl) R;have q3:∀u:Grown K,u.to.cell? ⟨wr.1.size,3,none⟩=some (.int .i64 f.hi):=Grown.cell (by rw[cell_of_row _ _ _ _ _ _ M];rfl) R;have W:f.b<K.1.size:=by have:=F.size;have:=O.size;omega
   have qx:∀u:Grown K,u.to.cell? ⟨f.b,f.o,none⟩=some (.int .i64 y):=Grown.cell ((O.cell (p:=⟨_,_,none⟩) (by have:=F.size;show f.b<_;omega)).trans ((F.cell (p:=⟨_,_,none⟩) J).trans P)) W;have B:=F.trans (O.mono F.size);have Z:=HI V;have Hy:=HI Y;clear c0 c1 c2 c3 M P V Y
   cases Q:inF f y
   ·have T:=D Q;refine Ux (by kernel_rfl) (by kernel_rfl) ?_;repeat (go_big_quiet_step (first
     |(go_at_call 122;exact Calls.Xh (q6o y f.lo f.hi false Q _))
     |fail))
    refine wpQuiet_nil ?_;rintro _ ⟨u,rfl⟩;have G:=B.trans (u.ok.mono B.size);go_wp2;go_ret;exact⟨by rw[T.out];rfl,G⟩
   ·clear D;refine Ux (by kernel_rfl) (by kernel_rfl) ?_;repeat (go_big_quiet_step (first
     |(go_at_call 122;exact Calls.Xh (q6o y f.lo f.hi true Q _))
     |fail))
    refine wpQuiet_nil ?_;rintro _ ⟨u,rfl⟩;have G:=B.trans (u.ok.mono B.size);go_wp2;refine⟨⟨j+1,by omega,rfl,λq hq=>?_,G⟩,by simp[intOf];omega⟩;by_cases X:q=j
    ·rw[X,Z.out,Hy.out];exact Q
    ·exact E q (by omega)
  ·obtain rfl:j=n:=by omega
   have I:=HI (qxv (fs:=fs) (x:=x) (by rw[m.out];exact E));go_wp2;go_ret;exact⟨by rw[I.out];rfl,F⟩
def Dv (fs:List Gi)(x:Nat->Int)(l:LU):Nat->LU
 |0=>l
 |k+1=>Dv fs x l k++Qx (x k) (Jh fs k).wid.toNat
theorem qn8 {fs:List Gi}{x:Nat->Int}{l:LU}{n:Nat}(e:∀j,j<n->1<=(Jh fs j).wid/\(Jh fs j).wid<=7):∀k,k<=n->(Dv fs x l k).length<=l.length+7*k
 |0,_=>by simp[Dv]
 |k+1,hk=>by
  have:=qn8 (x:=x) (l:=l) e k (by omega);have:=e k (by omega);simp only[Dv,AD,J8];omega
theorem qB7 (fs:List Gi)(x:Nat->Int)(A:OA)(n c:Nat)(B:OA)(m d:Nat)(w:WD)(hF:Ur w A n c fs)(q:Nums w fs x)(u:Bc fs x=false) :
  Calls prog 67 #[.slice B m d,.slice A n c] w λe w'=>e=.returned (.tuple #[.slice none 0 0,.int .i64 1])/\Below w.1.size w w':=by
 have p:=qfp fs x A n c w hF q;rw[u] at p;go_enter func67,ntmps67
 go_wp2_with (go_at_call 125;refine p.mono ?_;rintro e y ⟨rfl,f⟩)
 go_ret2;exact⟨rfl,f⟩
def IB (w:WD)(b:Nat)(r:LV):Prop:=∃t,w.1[b]?=some (.cells r.toArray t (0,0))
section
variable {w w':WD}{b:Nat}{r:LV}
theorem IB.new (w:WD)(r:LV)(t:TypeId):IB (w.alloc (.cells r.toArray t)) w.1.size r:=⟨t,BE w _⟩
theorem IB.keep (H:IB w b r)(h:w'.1[b]?=w.1[b]?):IB w' b r:=by
 obtain⟨t,H⟩:=H;exact⟨t,h.trans H⟩
theorem IB.below (H:IB w b r){B:Nat}(hb:Below B w w')(hB:b<B):IB w' b r:=H.keep (hb.block b hB)
theorem IB.lt (H:IB w b r):b<w.1.size:=by
 obtain⟨t,H⟩:=H;exact (Array.getElem?_eq_some_iff.1 H).1
theorem IB.cell (H:IB w b r)(j:Nat){v:Value}(hv:r[j]?=some v):w.cell? ⟨b,j,none⟩=some v:=by
 obtain⟨t,H⟩:=H;rw[cell_of_row _ _ _ _ _ _ H];simpa using hv
theorem IB.range (H:IB w b r):w.rangeAt b 0 r:=λj v e=>by
 rw[AT];exact H.cell j e
theorem IB.fz (H:IB w b r)(j:Nat):w.frozen? ⟨b,j,none⟩=false:=by
 obtain⟨t,H⟩:=H;unfold World.frozen?;rw[H];simp
theorem IB.there (H:IB w b r):w.there b 0 r.length:=λj e=>by
 rw[AT];exact⟨by rw[H.cell j (AC e)];rfl,H.fz j⟩
theorem IB.set (H:IB w b r)(j:Nat)(v:Value):IB (w.setCell ⟨b,j,none⟩ v) b (r.set j v):=by
 obtain⟨t,H⟩:=H;refine⟨t,(Fv v H).trans ?_⟩;rw[List.setIfInBounds_toArray]
theorem qtw {b:Nat}:∀(vs:LV) (k:Nat) {w:WD} {r:LV},IB w b r->k+vs.length=r.length->IB (w.setCells b k vs) b (r.take k++vs)
 |[],k,w,r,H,hk=>by simp at hk;rw[hk];simpa [World.setCells] using H
 |v::vs,k,w,r,H,hk=>by
  have h1:=qtw vs (k+1) (H.set k v) (by simp at hk ⊢;omega);have f:k<r.length:=by simp at hk;omega
  have e:(r.set k v).take (k+1)++vs=r.take k++v::vs:=by
   rw[List.take_succ_eq_append_getElem (by simpa using f),List.take_set_of_le (AE k)];simp
  rw[e] at h1;exact h1
theorem IB.all (H:IB w b r)(vs:LV)(h:vs.length=r.length):IB (w.setCells b 0 vs) b vs:=by
 have:=qtw vs 0 H (by omega);simpa using this
end
def Ve (fs:List Gi):Nat->Nat
 |0=>0
 |k+1=>Ve fs k+(Jh fs k).wid.toNat
def Dx (fs:List Gi)(l:LU)(k:Nat):Int:=Qq ((l.drop (Ve fs k)).take (Jh fs k).wid.toNat)
def Un (fs:List Gi)(x:Nat->Int)(r:LV):Nat->LV
 |0=>r
 |k+1=>(Un fs x r k).set (Jh fs k).o (.int .i64 (x k))
def tkF (fs:List Gi)(l:LU):Bool:=decide (l.length=Ve fs fs.length)&&Bc fs (Dx fs l)
theorem qih (fs:List Gi):∀{a b:Nat},a<=b->Ve fs a<=Ve fs b
 |a,0,h=>by
  obtain rfl:a=0:=by omega
  exact AE _
 |a,b+1,h=>by
  rcases Nat.lt_or_ge a (b+1) with h1|h1
  ·exact AZ (qih fs (by omega)) (Nat.le_add_right _ _)
  ·obtain rfl:a=b+1:=by omega
   exact AE _
theorem qtx {w w':WD}{base n c:Nat}{e:TypeId}{A:OA}{l:LU}(h:Own w base e A n c l)(q:∀g,base<=g->g<w.1.size->w'.1[g]?=w.1[g]?):Own w' base e A n c l:=by
 refine⟨h.1,?_⟩;rcases h.2 with m|⟨g,cap,f,m,h1,p,r⟩
 ·exact .inl m
 ·exact .inr ⟨g,cap,f,m,h1,(q g h1 (Array.getElem?_eq_some_iff.1 p).1).trans p,r⟩
theorem qbw (fs:List Gi)(x:Nat->Int)(r:LV):∀k,(Un fs x r k).length=r.length
 |0=>rfl
 |k+1=>by simp[Un,qbw fs x r k]
theorem qty (fs:List Gi)(A:OA)(n c:Nat)(p:Nat)(r:LV)(B:OA)(m d:Nat)(l:LU)(w:WD)(hF:Ur w A n c fs)(W:∀g o,A=some ⟨g,o,none⟩->g≠p)
  (hH:IB w p r) (hs:Sl w B m d l) (hm:m<=1000000) (hn:n<=100) (hw:∀j,j<n->1<=(Jh fs j).wid/\(Jh fs j).wid<=7) (ho:∀j,j<n->(Jh fs j).b=p/\(Jh fs j).o<r.length)
  (b2:l.length=Ve fs n->∀j,j<n->(Un fs (Dx fs l) r n)[(Jh fs j).o]?=some (.int .i64 (Dx fs l j))) :
  Calls prog 93 #[.slice B m d,.slice A n c] w λe w'=>e=.returned (.bool (tkF fs l))/\(∃r',IB w' p r'/\(tkF fs l=true->r'=Un fs (Dx fs l) r n))/\Turn (λk=>k=p) w w':=by
 have D:=HI hF.len;have Hl:=HI hs.len;have b4:=HI b2;clear b2;obtain⟨c9,b6⟩:=hF.bounds;unfold maxLen at b6;go_enter func93,ntmps93
 go_wp2_with fail
 go_loopw [0,10] (λs i wr=>∃(j:Nat) (B':OA) (J d':Nat),j<=n/\s=.slice B' J d'/\i=.int .i64 (j:Int)/\Sl wr B' J d' (l.drop (Ve fs j))/\Ve fs j<=m/\IB wr p (Un fs (Dx fs l) r j)/\Turn (λk=>k=p) w wr) (λ_ i _=>n-(intOf i).toNat)
 case atStart=>exact⟨0,B,m,d,AW _,rfl,rfl,by simpa [Ve] using hs,by simp[Ve],hH,Turn.refl _ _⟩
 case round=>
  obtain⟨j,B',J,d',hj,rfl,rfl,a1,hp,H,hT⟩:=hrel;have V:J=m-Ve fs j:=by have:=a1.len;rw[AS,Hl.out] at this;omega
  have Q:=HI V;have d1:J<=1000000:=by omega
  by_cases U:j<n
  ·obtain⟨g,o,hA,hg,c0,c1,c2,c3⟩:=(hF.turn hT W).cell U;have d0:=W g o hA;subst hA;obtain⟨hb,X⟩:=ho j U;have c7:=hw j U;have M:Ve fs (j+1)=Ve fs j+(Jh fs j).wid.toNat:=rfl;have I:Un fs (Dx fs l) r (j+1)=(Un fs (Dx fs l) r j).set (Jh fs j).o (.int .i64 (Dx fs l j)):=rfl;have O:Dx fs l j=(Qq ((l.drop (Ve fs j)).take (Jh fs j).wid.toNat):Int):=rfl;have b1:Ve fs (j+1)<=Ve fs n:=qih fs (by omega);obtain⟨f,hf⟩:∃f,Jh fs j=f:=⟨_,rfl⟩;rw[hf] at c0 c1 c2 c3 hb X c7 M I O;rw[hb] at c0;have Hf:=HI hf;have P:=HI I;clear hf hb I V;go_wp2_with fail
   have bx:Below wr.1.size wr (wr.alloc (.cells #[.pointer (some ⟨p,f.o,none⟩),.int .i64 f.wid,.int .i64 f.lo,.int .i64 f.hi] 206)):=Qi;have x0:(wr.alloc (.cells #[.pointer (some ⟨p,f.o,none⟩),.int .i64 f.wid,.int .i64 f.lo,.int .i64 f.hi] 206)).1[wr.1.size]?=some (.cells #[.pointer (some ⟨p,f.o,none⟩),.int .i64 f.wid,.int .i64 f.lo,.int .i64 f.hi] 206 (0,0)):=BE wr _;have zx:wr.1.size<(wr.alloc (.cells #[.pointer (some ⟨p,f.o,none⟩),.int .i64 f.wid,.int .i64 f.lo,.int .i64 f.hi] 206)).1.size:=by simp
   generalize wr.alloc (.cells #[.pointer (some ⟨p,f.o,none⟩),.int .i64 f.wid,.int .i64 f.lo,.int .i64 f.hi] 206)=u at bx x0 zx ⊢;have q0:u.cell? ⟨wr.1.size,0,none⟩=some (.pointer (some ⟨p,f.o,none⟩)):=by rw[cell_of_row _ _ _ _ _ _ x0];rfl
   have q1:u.cell? ⟨wr.1.size,1,none⟩=some (.int .i64 f.wid):=by rw[cell_of_row _ _ _ _ _ _ x0];rfl
   have b7:=H.lt;have H1:=H.below bx b7;have c6:=a1.below bx;have a6:Turn (λk=>k=p) w u:=hT.then (Qz bx);have b0:wr.1.size≠p:=by omega
   clear c0 c1 c2 c3 x0 a1 H hT bx;have R:∀w':WD,Turn (λk=>k=p) u w'->w'.cell? ⟨wr.1.size,0,none⟩=some (.pointer (some ⟨p,f.o,none⟩))/\w'.cell? ⟨wr.1.size,1,none⟩=some (.int .i64 f.wid)/\Turn (λk=>k=p) u w':=λw' T=>⟨(AY (T.block wr.1.size zx b0)).trans q0,(AY (T.block wr.1.size zx b0)).trans q1,T⟩
   have TD:Turn (λk=>k=p) u u.drew:=Qz (AI _ _).drew;by_cases b9:(J:Int)<f.wid
   ·have G:tkF fs l=false:=by
     unfold tkF;rw[AH (by rw[D.out,Hl.out];have:=Q.out;omega),Bool.false_and]
    have HT:=λ(w':WD)=>qdf B' J d' f.wid w' (by omega) (by omega) b9
    have F:=HI G;obtain⟨v,hv⟩:∃v,(Un fs (Dx fs l) r j)[f.o]?=some v:=⟨_,AC (by rw[qbw];exact X)⟩;clear G O M b1 hp;have q5:=H1.cell f.o hv;have q6:=H1.fz f.o;clear hv;go_region_held3 (λw'=>w'.cell? ⟨wr.1.size,0,none⟩=some (.pointer (some ⟨p,f.o,none⟩))/\w'.cell? ⟨wr.1.size,1,none⟩=some (.int .i64 f.wid)/\Turn (λk=>k=p) u w')
     (first|assumption|exact R _ TD|(go_split_ands;exact R _ (Turn.then ‹Turn (λk=>k=p) u _› (Qz ‹Below (World.heap _).size _ _›)))|(go_split_ands;exact R _ (Turn.drew (Gw _ rfl)))|exact R _ (Turn.drew (Gw _ rfl)))
     (first
      |(go_at_call 154;refine (HT _).mono ?_;rintro e w3 ⟨rfl,rfl⟩)
      |fail)
    go_wp2;go_ret;refine⟨by rw[F.out];rfl,⟨_,H1.set f.o _,λh=>absurd h (by rw[F.out];exact Bool.false_ne_true)⟩,a6.then (TD.then (Gw _ rfl))⟩
   ·have HT:=λ(w':WD) (h':Sl w' B' J d' (l.drop (Ve fs j)))=>q5n B' J d' (l.drop (Ve fs j)) f.wid w' h' (by omega) (by omega) (by omega) (by omega)
    rw[List.drop_drop,<-M,<-O] at HT;obtain⟨v,hv⟩:∃v,(Un fs (Dx fs l) r j)[f.o]?=some v:=⟨_,AC (by rw[qbw];exact X)⟩;have b8:Ve fs (j+1)<=m:=by have:=Q.out;omega
    have c8:=HI (show (l.drop (Ve fs (j+1))).length=m-Ve fs (j+1) by rw[AS,Hl.out]);generalize Dx fs l j=y at HT P;clear O M b1 hp;go_region_held3 (λw'=>w'.cell? ⟨wr.1.size,0,none⟩=some (.pointer (some ⟨p,f.o,none⟩))/\w'.cell? ⟨wr.1.size,1,none⟩=some (.int .i64 f.wid)/\Turn (λk=>k=p) u w')
     (first|assumption|exact R _ TD|(go_split_ands;exact R _ (Turn.then ‹Turn (λk=>k=p) u _› (Qz ‹Below (World.heap _).size _ _›)))|(go_split_ands;exact R _ (Turn.then ‹Turn (λk=>k=p) u _› (Gw _ rfl))))
     (first
      |(go_at_call 154;refine (HT _ c6.drew).mono ?_;rintro e w3 ⟨A3,n3,c3,rfl,Y,K⟩;have a7:Below u.1.size u w3:=(AI _ u).drew.trans K;have H3:=H1.below a7 (by omega);have q5:=H3.cell f.o hv;have q6:=H3.fz f.o)
      |fail)
    clear q5 q6;have T5:Turn (λk=>k=p) w3 (w3.setCell ⟨p,f.o,none⟩ (.int .i64 y)):=Gw _ rfl;have Z:Sl (w3.setCell ⟨p,f.o,none⟩ (.int .i64 y)) A3 n3 c3 (l.drop (Ve fs (j+1))):=(qtx Y λg hg _=>Below.heap_setCell _ _ _ _ (by show g≠p;have h1:u.drew.1.size=u.1.size:=rfl;have:=H1.lt;omega)).sl;have H5:=H3.set f.o (.int .i64 y);rw[<-P.out] at H5;go_wp2;exact⟨⟨j+1,A3,n3,c3,by omega,rfl,rfl,Z,b8,H5,a6.then ((Qz a7).then T5)⟩,by simp[intOf];omega⟩
  ·obtain rfl:j=n:=by omega
   have E:tkF fs l=(decide (J=0)&&Bc fs (Dx fs l)):=by
    unfold tkF;rw[D.out,Hl.out];congr 1
    exact decide_eq_decide.2 (by omega)
   have b5:=hF.turn hT W;clear V;by_cases h0:J=0
   ·have a2:Nums wr fs (Dx fs l):=λq hq=>by
     obtain⟨e1,e2⟩:=ho q (by rw[<-D.out];exact hq);rw[e1];exact⟨H.lt,H.cell _ (b4.out (by rw[Hl.out];have:=Q.out;omega) q (by rw[<-D.out];exact hq))⟩
    have Hm:=qfp fs (Dx fs l) A j c wr b5 a2;have a8:tkF fs l=Bc fs (Dx fs l):=by rw[E,AL h0,Bool.true_and]
    have b3:=HI a8;subst h0;clear E a8 a2;go_wp2_with (go_at_call 125;refine Hm.mono ?_;rintro e w3 ⟨rfl,K⟩)
    go_ret;refine⟨by rw[b3.out];rfl,⟨_,H.below K H.lt,λ_=>rfl⟩,hT.then (Qz K)⟩
   ·have G:tkF fs l=false:=by rw[E,AH h0,Bool.false_and]
    have F:=HI G;clear E G;go_wp2;go_ret;refine⟨by rw[F.out];rfl,⟨_,H,λh=>absurd h (by rw[F.out];exact Bool.false_ne_true)⟩,hT⟩
def Jj (b:Nat):List Gi:=[⟨b,1,4,1,2147483647⟩,⟨b,2,1,1,2⟩]
theorem qB8 {w:WD}{b:Nat}{f:Gi}(H:IB w b f.vs):(loadVar 206 ⟨b,0,none⟩).run prog w=.ok (.agg f.vs.toArray) w:=
 run_loadVar_mid w b 0 206 _ _ H.range underlying206 rfl (by kernel_rfl)
theorem qz4 {m:Func}{p:Tmp}{ty:TypeId}{q:Addr}{v:Value}{P:Program}{w:WD}{f:Array Value}(h:m.results=#[.cell p ty])(y:f.getD p undef=.pointer (some q))(u:(loadVar ty q).run P w=.ok v w) :
  (results m f).run P w=.ok v w:=by
 have e:(results m f).run P w=((asAddr (f.getD p undef)).run P w).andThen λa B=>(loadVar ty a).run P B:=by
  simp only[results,h];simp[Sem.run_bind,Result.andThen];try rfl
 rw[e,y];simp[asAddr,u]
theorem qxw (w:WD)(t:TypeId)(m:Array Value)(fs:List Gi)(n:Nat)(u:m=(fs.map Gi.vs).flatten.toArray)(hn:fs.length=n)(hm:n<=100):Ur (w.alloc (.cells m t)) (some ⟨w.1.size,0,none⟩) n n fs:=by
 have p:∀x∈fs.map Gi.vs,x.length=4:=λx e=>by
  obtain⟨f,_,rfl⟩:=List.mem_map.1 e;rfl
 refine⟨by simpa using hn,AE _,by unfold maxLen;omega,λj x e=>⟨w.1.size,0,rfl,by simp,p x (List.mem_of_getElem? e),λi v y=>?_⟩⟩;have q:=qn2 p j x e i v y;rw[cell_of_row _ _ _ _ _ _ (BE w _),u,AT];simpa using q
theorem alB {w w':WD}(u:Grown w)(o:Obj)(h:w'=u.to.alloc o):Below w.1.size w w':=by
 subst h;exact u.ok.trans ((AI _ _).alloc u.ok.size _)
theorem qfq (b o:Nat)(w:WD) :
  Calls prog 127 #[.pointer (some ⟨b,o,none⟩)] w λe w'=>e=.returned (.agg #[.pointer (some ⟨b,o,none⟩),.int .i64 1,.int .i64 1,.int .i64 2])/\Below w.1.size w w':=by
 go_enter func127,ntmps127
 go_wp2;exact bodyPost_ret (qz4 Tryz.results127 rfl (qB8 (f:=⟨b,o,1,1,2⟩) (IB.new w _ _))) rfl ⟨rfl,Qi⟩
theorem qbx (b:Nat)(w:WD) :
  Calls prog 68 #[.pointer (some ⟨b,0,none⟩)] w λe w'=>∃g,e=.returned (.slice (some ⟨g,0,none⟩) 2 2)/\Ur w' (some ⟨g,0,none⟩) 2 2 (Jj b)/\w.1.size<=g/\Below w.1.size w w':=by
 go_enter func68,ntmps68
 go_wp2_with fail
 refine q1m 8 (by kernel_rfl) (by kernel_rfl) ?_;simp only[List.take_succ_cons,List.take_zero,List.drop_succ_cons,List.drop_zero];repeat (go_big_quiet_step (first|(go_at_call 127;exact Calls.grown (qfq b 2 _))|fail))
 refine wpQuiet_nil ?_;rintro _ ⟨u,rfl⟩;go_wp2_with fail
 go_ret;exact⟨u.to.1.size,rfl,qxw u.to _ _ (Jj b) 2 rfl rfl (by omega),u.ok.size,alB u _ rfl⟩
theorem q2n (s:ByteArray)(r:Bool)(h:decide (1<=s.size/\s.size<=20)=r)(w:WD) :
  Calls prog 65 #[.string s] w λe w'=>e=.returned (.bool r)/\w=w':=by
 go_enter func65,ntmps65
 go_wp2_with (go_at_call 122;refine (q6o (s.size:Int) 1 20 r (by rw[<-h];exact decide_eq_decide.2 (by omega)) w).mono ?_;rintro e f ⟨rfl,rfl⟩)
 go_ret;exact⟨rfl,rfl⟩
structure Ino where
 kind:Int
 links:Int
 size:Int
def Ino.x (i:Ino):Nat->Int
 |0=>i.kind
 |1=>i.links
 |_=>i.size
def Ino.vs (i:Ino):LV:=[.int .i64 i.kind,.int .i64 i.links,.int .i64 i.size]
theorem Qcr (a b:Gi)(x:Nat->Int):Bc [a,b] x=(inF a (x 0)&&inF b (x 1)):=by
 simp[Bc,List.range,List.range.loop,Jh]
theorem q1s {P:Program}{f:Array Oper}{e:List Oper}{o:Oper}{a:Act}{w:WD}{Q:Exit->Act->WD->Prop}(u:o.guard=none)(ty:TypeId)(x y:Operand)(m:o.op=Op.store ty x y)
  (b:Nat) (D:a.eval x=.pointer (some ⟨b,0,none⟩)) (vs:LV) (E:a.eval y=.agg vs.toArray) {r:LV} (H:IB w b r) (p:vs.length=r.length) (hi:(P.info? ty).map (·.size)=some vs.length) (h1:vs.all (·.oneCell')=true)
  (q:∀w',IB w' b vs->Turn (λg=>g=b) w w'->wpList P f Q e (a.put o.dst undef) w'):wpList P f Q (o::e) a w:=
 wpList_store_mid u _ x y m b 0 vs.toArray D E (by have:=H.there;simpa [p] using this) (by simpa using hi) (all_oneCell_toArray (λv B=>(List.all_eq_true.1 h1) v B)) (q _ (H.all vs p) (Vp (S:=λg=>g=b) rfl _ 0 w))
theorem q8n {P:Program}{f:Array Oper}{e:List Oper}{o:Oper}{a:Act}{w:WD}{Q:Exit->Act->WD->Prop}(q:o.guard=none)(ty:TypeId)(x:Operand)(m:o.op=Op.load ty x)
  (b:Nat) (y:a.eval x=.pointer (some ⟨b,0,none⟩)) (vs:LV) (H:IB w b vs) {d:TypeDesc} (u:P.underlying ty=some d) (hd:d.isRow=true) (hi:(P.info? ty).map (·.size)=some vs.length)
  (p:wpList P f Q e (a.put o.dst (.agg vs.toArray)) w):wpList P f Q (o::e) a w:=
 wpList_load_mid q ty x m b 0 y vs d H.range u hd hi p
theorem q66 {q:Func}{p a:Tmp}{ty:TypeId}{m:Addr}{v:Value}{P:Program}{w:WD}{f:Array Value}(h:q.results=#[.cell p ty,.tmp a])(y:f.getD p undef=.pointer (some m))(u:(loadVar ty m).run P w=.ok v w) :
  (results q f).run P w=.ok (.tuple #[v,f.getD a undef]) w:=by
 have e:(results q f).run P w=((asAddr (f.getD p undef)).run P w).andThen λm B=>((loadVar ty m).run P B).andThen λv D=>.ok (.tuple #[v,f.getD a undef]) D:=by
  simp only[results,h];simp[Sem.run_bind,Result.andThen]
 rw[e,y];simp[asAddr,u]
structure Qm where
 name:ByteArray
 ino:Int
 kind:Int
def Qm.x (e:Qm):Nat->Int
 |0=>e.ino
 |_=>e.kind
def Gu (x y:Int):Bool:=decide ((1<=x/\x<=2147483647)/\1<=y/\y<=2)
def q8o (s:ByteArray):Bool:=decide (1<=s.size/\s.size<=20)
def Qm.may (e:Qm):Bool:=q8o e.name&&Gu e.ino e.kind
def Qm.bytes (e:Qm):LU:=(Qx e.name.size 1++e.name.data.toList)++(Qx e.ino 4++Qx e.kind 1)
def Qm.vs (e:Qm):LV:=[.string e.name,.int .i64 e.ino,.int .i64 e.kind]
def Ue (l:LU):Bool:=decide (1<=l.length/\1+Qq (l.take 1)<=l.length)
theorem q2y (l:LU):Ue l=true↔Yt l 1:=decide_eq_true_iff
def J9 (l:LU):Qm:=⟨⟨(bodyT l 1).toArray⟩,Qq ((Zu l 1).take 4),Qq (((Zu l 1).drop 4).take 1)⟩
def q8p (l:LU):Bool:=decide ((Zu l 1).length=5)&&Gu (J9 l).ino (J9 l).kind
def Xa (l:LU):Bool:=Ue l&&(q8o (J9 l).name&&q8p l)
theorem qkj (b:Nat)(i:Qm)(x:Nat->Int)(h0:x 0=i.ino)(h1:x 1=i.kind):Bc (Jj b) x=Gu i.ino i.kind:=by
 unfold Jj;rw[Qcr,h0,h1];unfold inF Gu;simp only[Bool.decide_and]
theorem qtz (b j:Nat)(e:j<2):1<=(Jh (Jj b) j).wid/\(Jh (Jj b) j).wid<=7:=by
 match j,e with
 |0,_=>simp[Jh,Jj]
 |1,_=>simp[Jh,Jj]
theorem qB9 (b j:Nat)(r:LV)(f:r.length=3)(e:j<2):(Jh (Jj b) j).b=b/\(Jh (Jj b) j).o<r.length:=by
 rw[f];match j,e with
 |0,_=>simp[Jh,Jj]
 |1,_=>simp[Jh,Jj]
theorem qCm (b:Nat)(l:LU):tkF (Jj b) (Zu l 1)=q8p l:=by
 unfold tkF q8p;rw[qkj b (J9 l) _ rfl rfl];rfl
theorem qu0 (b:Nat)(l:LU)(s:ByteArray)(x y:Value):Un (Jj b) (Dx (Jj b) l) [.string s,x,y] 2=[.string s,.int .i64 (Dx (Jj b) l 0),.int .i64 (Dx (Jj b) l 1)]:=rfl
theorem qu1 (b:Nat)(l:LU)(s:ByteArray)(x y:Value)(j:Nat)(e:j<2):(Un (Jj b) (Dx (Jj b) l) [.string s,x,y] 2)[(Jh (Jj b) j).o]?=some (.int .i64 (Dx (Jj b) l j)):=by
 rw[qu0 b l s];match j,e with
 |0,_=>rfl
 |1,_=>rfl
theorem qBa (b:Nat)(i:Qm):Dv (Jj b) i.x (Qx i.name.size 1++i.name.data.toList) 2=i.bytes:=by
 simp[Dv,Jj,Jh,Qm.x,Qm.bytes]
theorem qn9 {w:WD}{b:Nat}{i:Qm}(H:IB w b i.vs):Nums w (Jj b) i.x:=λj e=>by
 match j,e with
 |0,_=>exact⟨H.lt,H.cell 1 rfl⟩
 |1,_=>exact⟨H.lt,H.cell 2 rfl⟩
theorem q1q {w:WD}{b:Nat}{i:Qm}(H:IB w b i.vs):(loadVar 32 ⟨b,0,none⟩).run prog w=.ok (.agg #[.string i.name,.int .i64 i.ino,.int .i64 i.kind]) w:=
 run_loadVar_mid w b 0 32 _ _ H.range underlying32 rfl (by kernel_rfl)
theorem q9k (i:Qm)(h:i.may=false)(w:WD) :
  Calls prog 39 #[.agg #[.string i.name,.int .i64 i.ino,.int .i64 i.kind]] w λe w'=>e=.returned (.tuple #[.slice none 0 0,.int .i64 1])/\Below w.1.size w w':=by
 have p:IB (w.alloc (.cells i.vs.toArray 32)) w.1.size i.vs:=IB.new w _ _;have q:Below w.1.size w (w.alloc (.cells i.vs.toArray 32)):=Qi;go_enter func39,ntmps39
 go_wp2_with fail
 change Calls _ _ _ (w.alloc (.cells i.vs.toArray 32)) _;generalize w.alloc (.cells i.vs.toArray 32)=y at p q ⊢
 cases hn:q8o i.name
 ·refine (q2n i.name false hn y).mono ?_;rintro e G ⟨rfl,rfl⟩;go_wp2;go_ret2;exact⟨rfl,q⟩
 ·refine (q2n i.name true hn y).mono ?_;rintro e G ⟨rfl,rfl⟩;have H:Gu i.ino i.kind=false:=by unfold Qm.may at h;rw[hn,Bool.true_and] at h;exact h
  have M:i.name.size<=20:=(AK hn).2;have P:=p.cell 0 rfl;clear h hn;go_wp2_with (first
   |(go_at_call 66;refine (q4w none 0 0 [] i.name y (Il _) (by omega) (by omega)).mono ?_;rintro e G ⟨J,O,c2,rfl,F,f⟩;have E:=p.below f p.lt)
   |(go_at_call 68;refine (qbx w.1.size _).mono ?_;rintro e I ⟨g,rfl,hF,K,m⟩)
   |(go_at_call 67;refine (qB7 (Jj w.1.size) i.x _ _ _ _ _ _ I hF (qn9 (E.below m E.lt)) (by rw[qkj _ i _ rfl rfl];exact H)).mono ?_;rintro e Q ⟨rfl,u⟩))
  go_ret2;have B:=q.trans (f.mono q.size);have D:=B.trans (m.mono B.size);exact⟨rfl,D.trans (u.mono D.size)⟩
def Qm.zero:Qm:=⟨⟨#[]⟩,0,0⟩
def q4h (w:WD)(l:LU)(e:Ending)(w':WD):Prop:=
 (Xa l=false->e=.returned (.tuple #[.agg #[.string ⟨#[]⟩,.int .i64 0,.int .i64 0],.int .i64 3]))/\(Xa l=true->e=.returned (.tuple #[.agg #[.string (J9 l).name,.int .i64 (J9 l).ino,.int .i64 (J9 l).kind],.int .i64 0]))/\Below w.1.size w w'
theorem q4h.no {w w':WD}{l:LU}(h:Xa l=false)(hb:Below w.1.size w w'):q4h w l (.returned (.tuple #[.agg #[.string ⟨#[]⟩,.int .i64 0,.int .i64 0],.int .i64 3])) w':=
 ⟨λ_=>rfl,λh2=>absurd (h.symm.trans h2) Bool.false_ne_true,hb⟩
theorem q4h.yes {w w':WD}{l:LU}{i:Qm}(h:Xa l=true)(hi:J9 l=i)(hb:Below w.1.size w w'):q4h w l (.returned (.tuple #[.agg #[.string i.name,.int .i64 i.ino,.int .i64 i.kind],.int .i64 0])) w':=
 ⟨λh2=>absurd (h2.symm.trans h) Bool.false_ne_true,λ_=>by rw[hi],hb⟩
theorem qcm (B:OA)(m d:Nat)(l:LU)(w:WD)(hs:Sl w B m d l)(hm:m<=1000000) :
  Calls prog 54 #[.slice B m d] w λe w'=>q4h w l e w':=by
 have U:IB (w.alloc (.cells Qm.zero.vs.toArray 32)) w.1.size Qm.zero.vs:=IB.new w _ _;have K:Below w.1.size w (w.alloc (.cells Qm.zero.vs.toArray 32)):=Qi;go_enter func54,ntmps54
 go_wp2_with fail
 change Calls _ _ _ (w.alloc (.cells Qm.zero.vs.toArray 32)) _;generalize w.alloc (.cells Qm.zero.vs.toArray 32)=w1 at U K ⊢;have s1:=hs.below K
 cases O:Ue l
 ·have u:Xa l=false:=by unfold Xa;rw[O,Bool.false_and]
  refine (q9a B m d l w1 s1 (λh=>absurd ((q2y l).2 h) (by rw[O];exact Bool.false_ne_true))).mono ?_;rintro e f ⟨rfl,rfl⟩;have M:Below w1.1.size w1 (w1.alloc (.cells Qm.zero.vs.toArray 32)):=Qi;have V:=U.below M U.lt;have p:=HI u;clear u O;go_wp2_with (refine q1s rfl _ _ _ rfl w.1.size rfl Qm.zero.vs rfl (by exact V) rfl (by kernel_rfl) rfl ?_;intro w4 J T4)
  refine bodyPost_ret (q66 Tryz.results54 rfl (q1q J)) rfl (q4h.no p.out ?_);have I:=K.trans (M.mono K.size);exact I.trans (T4.below (λx H=>by omega) I.size)
 ·refine (q79 B m d l w1 s1 (by omega) ((q2y l).1 O)).mono ?_;rintro e f ⟨A2,n2,c2,rfl,E,Q⟩;have a1:n2<=1000000:=by have:=E.len;have:=qf0 l 1;have:=hs.len;omega
  have R2:=U.below Q U.lt;have B2:=K.trans (Q.mono K.size);have hz:=K.size;have h0:w.1.size<f.1.size:=R2.lt;obtain⟨s,D⟩:∃s,(J9 l).name=s:=⟨_,rfl⟩;have es:(⟨(bodyT l 1).toArray⟩:ByteArray)=s:=D;have H3:IB (f.alloc (.cells [Value.string s,.int .i64 0,.int .i64 0].toArray 32)) f.1.size [.string s,.int .i64 0,.int .i64 0]:=IB.new f _ _;have M:Below f.1.size f (f.alloc (.cells [Value.string s,.int .i64 0,.int .i64 0].toArray 32)):=Qi;have z3:(f.alloc (.cells [Value.string s,.int .i64 0,.int .i64 0].toArray 32)).1.size=f.1.size+1:=by simp
  rw[es];go_wp2_with fail
  change Calls _ _ _ (f.alloc (.cells [Value.string s,.int .i64 0,.int .i64 0].toArray 32)) _;generalize f.alloc (.cells [Value.string s,.int .i64 0,.int .i64 0].toArray 32)=w3 at H3 M z3 ⊢;have V:=R2.below M h0;have s3:=E.sl.below M;have I:=B2.trans (M.mono B2.size);clear U K s1 E Q R2 B2 M
  cases F:q8o s
  ·have u:Xa l=false:=by unfold Xa;rw[D,F,Bool.false_and,Bool.and_false]
   have p:=HI u;clear u O;refine (q2n s false F w3).mono ?_;rintro e w' ⟨rfl,rfl⟩;go_wp2_with (refine q1s rfl _ _ _ rfl w.1.size rfl Qm.zero.vs rfl (by exact V) rfl (by kernel_rfl) rfl ?_;intro w4 J T4)
   refine bodyPost_ret (q66 Tryz.results54 rfl (q1q J)) rfl (q4h.no p.out ?_);exact I.trans (T4.below (λx H=>by omega) I.size)
  ·have G:Xa l=q8p l:=by unfold Xa;rw[D,O,F,Bool.true_and,Bool.true_and]
   refine (q2n s true F w3).mono ?_;rintro e w' ⟨rfl,rfl⟩;go_wp2_with fail
   refine (qbx f.1.size w3).mono ?_;rintro e w4 ⟨g,rfl,hF,hg,q⟩;have J:=V.below q V.lt;have H4:=H3.below q H3.lt;have s4:=s3.below q;have R:=I.trans (q.mono I.size);have T:=qty (Jj f.1.size) (some ⟨g,0,none⟩) 2 2 f.1.size _ A2 n2 c2 (Zu l 1) w4 hF (λg' o e=>by injection e with e;injection e with e1;omega) H4 s4 a1 (by omega) (qtz _) (λj hj=>qB9 _ j _ rfl hj) (λ_ j hj=>qu1 _ _ _ _ _ j hj);rw[qCm,qu0] at T;have Z:¬(w.1.size=f.1.size):=by omega
   have Y:=HI h0;clear V H3 s3 I q hz z3
   cases W:q8p l
   ·rw[W] at T;have p:=HI (G.trans W);clear G W O;go_wp2_with (first
     |(go_at_call 93;refine T.mono ?_;rintro e w5 ⟨rfl,-,P⟩;have R5:=J.keep (P.block _ J.lt Z))
     |(refine q1s rfl _ _ _ rfl w.1.size rfl Qm.zero.vs rfl R5 rfl (by kernel_rfl) rfl ?_;intro w6 R6 T6))
    refine bodyPost_ret (q66 Tryz.results54 rfl (q1q R6)) rfl (q4h.no p.out ?_);exact R.trans ((P.below (B:=w.1.size) (λx H=>by have:=Y.out;omega) R.size).trans (T6.below (λx H=>by omega) (AZ R.size P.size)))
   ·rw[W] at T;have X:=HI (G.trans W);obtain⟨x,H⟩:∃x,(J9 l).ino=x:=⟨_,rfl⟩;obtain⟨y,hy⟩:∃y,(J9 l).kind=y:=⟨_,rfl⟩;have ex:Dx (Jj f.1.size) (Zu l 1) 0=x:=H;have ey:Dx (Jj f.1.size) (Zu l 1) 1=y:=hy;rw[ex,ey] at T;have Hi:=HI (show J9 l=⟨s,x,y⟩ by rw[<-D,<-H,<-hy]);clear G W O ex ey H hy D es;go_wp2_with (first
     |(go_at_call 93;refine T.mono ?_;rintro e w5 ⟨rfl,⟨r',H5,a2⟩,P⟩;obtain rfl:=a2 trivial;have R5:=J.keep (P.block _ J.lt Z))
     |(refine q8n rfl _ _ rfl f.1.size rfl _ H5 underlying32 rfl (by kernel_rfl) ?_)
     |(refine q1s rfl _ _ _ rfl w.1.size rfl (Qm.mk s x y).vs rfl R5 rfl (by kernel_rfl) rfl ?_;intro w6 R6 T6))
    refine bodyPost_ret (q66 Tryz.results54 rfl (q1q R6)) rfl (q4h.yes X.out Hi.out ?_);exact R.trans ((P.below (B:=w.1.size) (λx H=>by have:=Y.out;omega) R.size).trans (T6.below (λx H=>by omega) (AZ R.size P.size)))
theorem qxx {w:WD}{base n c:Nat}{e:TypeId}{A:OA}{l:LU}(h:Own w base e A n c l):∀g,q01 A=some g->base<=g:=λg f=>by
 cases A with
 |none=>cases f
 |some ad=>
  have h2:=h.block ad rfl;have m:ad.block=g:=OI f;omega
theorem qxy (fs:List Gi)(x:Nat->Int)(A:OA)(n c:Nat)(B:OA)(m d:Nat)(l:LU)(w:WD)(hF:Ur w A n c fs)(hN:Nums w fs x)(hr:Bc fs x=true)
  (hs:Sl w B m d l) (b3:1<=n) (hm:m<=1000) (hn:n<=100) (hw:∀j,j<n->1<=(Jh fs j).wid/\(Jh fs j).wid<=7) :
  Calls prog 67 #[.slice B m d,.slice A n c] w λe w'=>∃D G H,e=.returned (.tuple #[.slice D G H,.int .i64 0])/\Sl w' D G H (Dv fs x l n)/\(∀g,q01 D=some g->w.1.size<=g)/\Below w.1.size w w':=by
 have Hm:=qfp fs x A n c w hF hN;rw[hr] at Hm;have O:=HI hF.len;have Hl:=HI hs.len;obtain⟨b2,a2⟩:=hF.bounds;unfold maxLen at a2;go_enter func67,ntmps67
 go_wp2_with (go_at_call 125;refine Hm.mono ?_;rintro e w1 ⟨rfl,u⟩)
 have X:=hF.below u;have Z:=hN.below u;have a8:=hs.below u;go_loopw [0,13] (λs i wr=>∃(j:Nat) (D:OA) (G H:Nat),j<=n/\s=.slice D G H/\i=.int .i64 (j:Int)/\Sl wr D G H (Dv fs x l j)/\(j=0\/∀g,q01 D=some g->w.1.size<=g)/\Below w1.1.size w1 wr) (λ_ i _=>n-(intOf i).toNat)
 case atStart=>exact⟨0,B,m,d,AW _,rfl,rfl,a8,.inl rfl,AI _ _⟩
 case round=>
  obtain⟨j,D,G,H,hj,rfl,rfl,F,Y,M⟩:=hrel;by_cases K:j<n
  ·obtain⟨g,o,hA,hg,c0,c1,c2,c3⟩:=(X.below M).cell K;subst hA;obtain⟨R,U⟩:=Z j (by rw[O.out];exact K);have b1:=hw j K;have Q:=qn8 (x:=x) (l:=l) hw j hj;have E:Uw (Dv fs x l j) (x j) (Jh fs j).wid=Dv fs x l (j+1):=by unfold Uw;rw[AA (by omega)];rfl
   have a6:=F.len;obtain⟨f,hf⟩:∃f,Jh fs j=f:=⟨_,rfl⟩;obtain⟨y,hy⟩:∃y,x j=y:=⟨_,rfl⟩;rw[hf] at c0 c1 c2 c3 R U b1 E;rw[hy] at U E;have a7:G<=17592186044416:=by rw[Hl.out] at Q;omega
   have W:=HI E;clear hf hy E Q a6;go_wp2_with fail
   have T:Below wr.1.size wr (wr.alloc (.cells #[.pointer (some ⟨f.b,f.o,none⟩),.int .i64 f.wid,.int .i64 f.lo,.int .i64 f.hi] 206)):=Qi;have V:(wr.alloc (.cells #[.pointer (some ⟨f.b,f.o,none⟩),.int .i64 f.wid,.int .i64 f.lo,.int .i64 f.hi] 206)).1[wr.1.size]?=some (.cells #[.pointer (some ⟨f.b,f.o,none⟩),.int .i64 f.wid,.int .i64 f.lo,.int .i64 f.hi] 206 (0,0)):=BE wr _;have zx:wr.1.size<(wr.alloc (.cells #[.pointer (some ⟨f.b,f.o,none⟩),.int .i64 f.wid,.int .i64 f.lo,.int .i64 f.hi] 206)).1.size:=by simp
   generalize wr.alloc (.cells #[.pointer (some ⟨f.b,f.o,none⟩),.int .i64 f.wid,.int .i64 f.lo,.int .i64 f.hi] 206)=I at T V zx ⊢;have q0:I.cell? ⟨wr.1.size,0,none⟩=some (.pointer (some ⟨f.b,f.o,none⟩)):=by rw[cell_of_row _ _ _ _ _ _ V];rfl
   have q1:I.cell? ⟨wr.1.size,1,none⟩=some (.int .i64 f.wid):=by rw[cell_of_row _ _ _ _ _ _ V];rfl
   have qx:I.cell? ⟨f.b,f.o,none⟩=some (.int .i64 y):=(T.cell (p:=⟨_,_,none⟩) (by have:=M.size;show f.b<_;omega)).trans ((M.cell (p:=⟨_,_,none⟩) R).trans U);have J:=M.trans (T.mono M.size);have b0:=F.below T;clear c0 c1 c2 c3 V U F;go_still_tail 7,(by kernel_rfl)
   change wpList _ _ _ _ _ I.drew;go_wp2_with (go_at_call 126;refine (q7t D G H (Dv fs x l j) y f.wid _ b0.drew a7).mono ?_;rintro e w3 ⟨A3,n3,c3,rfl,q,a1⟩)
   rw[W.out] at q;have P:Below I.1.size I w3:=(AI _ _).drew.trans a1;exact⟨⟨j+1,A3,n3,c3,by omega,rfl,rfl,q.sl,.inr (λg hg=>by have:=qxx q g hg;have h1:=J.size;have h2:=u.size;have h3:I.drew.1.size=I.1.size:=rfl;omega),J.trans (P.mono J.size)⟩,by simp[intOf];omega⟩
  ·obtain rfl:j=n:=by omega
   go_wp2;go_ret2;exact⟨D,G,H,rfl,F,Y.resolve_left (by omega),u.trans (M.mono u.size)⟩
theorem qxz (s:LU)(r:LU)(h:s.length<=20):Yt ((Qx (s.length:Int) 1++s)++r) 1/\bodyT ((Qx (s.length:Int) 1++s)++r) 1=s/\Zu ((Qx (s.length:Int) 1++s)++r) 1=r:=by
 have e:((Qx (s.length:Int) 1++s)++r).take 1=Qx (s.length:Int) 1:=by rw[AM];exact List.take_left' (J8 _ _)
 have m:((Qx (s.length:Int) 1++s)++r).drop 1=s++r:=by rw[AM];exact List.drop_left' (J8 _ _)
 have f:Qq (Qx (s.length:Int) 1)=s.length:=by rw[qaa];omega
 refine⟨?_,?_,?_⟩
 ·unfold Yt;rw[e,f];simp[J8]
 ·unfold bodyT;rw[e,m,f];exact List.take_left' rfl
 ·unfold Zu;rw[e,f,<-List.drop_drop,m];exact List.drop_left' rfl
theorem q8q (e:Qm):e.bytes.length=6+e.name.size:=by
 have f:e.name.data.size=e.name.size:=rfl;simp[Qm.bytes,J8];omega
theorem qfr (e:Qm)(h:e.may=true):J9 e.bytes=e/\Xa e.bytes=true:=by
 obtain⟨hn,q⟩:=Bool.and_eq_true_iff.1 h;have B:=AK hn;have hm:=AK q;have u:e.name.data.toList.length=e.name.size:=by simp
 obtain⟨m,p,f⟩:=qxz e.name.data.toList (Qx e.ino 4++Qx e.kind 1) (by omega);rw[u] at m p f;have y:(Qx (e.name.size:Int) 1++e.name.data.toList)++(Qx e.ino 4++Qx e.kind 1)=e.bytes:=rfl;rw[y] at m p f;have hi:J9 e.bytes=e:=by
  unfold J9;rw[p,f,List.take_left' (J8 _ _),List.drop_left' (J8 _ _),AN (by rw[J8];omega),q57 e.ino 4 (by omega) (by omega),q57 e.kind 1 (by omega) (by omega)]
 refine⟨hi,?_⟩;unfold Xa q8p;rw[hi,hn,q,(q2y _).2 m,f];simp[J8]
def Ei (l:LU):Qm:=if Xa l=true then J9 l else Qm.zero
def Fg (l:LU):Int:=if Xa l=true then 0 else 3
theorem qkk {l:LU}(h:Xa l=false):Ei l=Qm.zero/\Fg l=3:=by unfold Ei Fg;rw[h];exact⟨rfl,rfl⟩
theorem q5w {l:LU}(h:Xa l=true):Ei l=J9 l/\Fg l=0:=by unfold Ei Fg;rw[AA h,AA h];exact⟨rfl,rfl⟩
theorem qby (B:OA)(m d:Nat)(l:LU)(w:WD)(u:Sl w B m d l)(hm:m<=1000000) :
  Calls prog 54 #[.slice B m d] w λe w'=>e=.returned (.tuple #[.agg #[.string (Ei l).name,.int .i64 (Ei l).ino,.int .i64 (Ei l).kind],.int .i64 (Fg l)])/\Below w.1.size w w':=by
 refine (qcm B m d l w u hm).mono λe w' ⟨h1,h2,q⟩=>⟨?_,q⟩
 cases h:Xa l
 ·obtain⟨f,p⟩:=qkk h;rw[f,p];exact h1 h
 ·obtain⟨f,p⟩:=q5w h;rw[f,p];exact h2 h
