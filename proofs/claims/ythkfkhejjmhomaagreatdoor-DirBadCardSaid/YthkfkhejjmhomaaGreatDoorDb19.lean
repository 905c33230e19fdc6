/- Inode's fields as rows in memory: where each number lies, its width, what it may be; wheth -/
import Derived.Test.YthkfkhejjmhomaaGreatDoorDb3
import Derived.Test.YthkfkhejjmhomaaGreatDoorDb4
import Derived.Test.YthkfkhejjmhomaaGreatDoorDb7
import Derived.Deep.RegionHeld3
import Derived.BigRegion
import Derived.StillTailTactics
namespace Go.Proofs.YthkfkhejjmhomaaGreatDoor
open Go Go.RowKit Go.Proofs
set_option maxHeartbeats 4000000
set_option maxRecDepth 10000
structure Uy where
 b:Nat
 o:Nat
 wid:Int
 lo:Int
 hi:Int
def Uy.vs (f:Uy):List Value:=[.pointer (some ⟨f.b,f.o,none⟩),.int .i64 f.wid,.int .i64 f.lo,.int .i64 f.hi]
def Vz (w:World)(A:Option Addr)(n c:Nat)(fs:List Uy):Prop:=Jq w 4 A n c (fs.map Uy.vs)
def Jc (fs:List Uy)(j:Nat):Uy:=fs.getD j ⟨0,0,0,0,0⟩
section
variable {w w':World}{n c:Nat}{A:Option Addr}{fs:List Uy}
theorem Vz.len (h:Vz w A n c fs):fs.length=n:=by have:=Jq.len h;simpa using this
theorem Vz.bounds (h:Vz w A n c fs):n<=c/\c<=maxLen:=⟨Jq.cap h,Jq.max h⟩
theorem Vz.below (h:Vz w A n c fs)(hb:Below w.1.size w w'):Vz w' A n c fs:=Jq.below h hb
theorem Vz.turn {b:Nat}(h:Vz w A n c fs)(ht:Turn (λk=>k=b) w w')(hne:∀g o,A=some ⟨g,o,none⟩->g≠b):Vz w' A n c fs:=
 Jq.keep h ht.size λg o d e=>ht.block g e (hne g o d)
theorem Vz.cell (h:Vz w A n c fs){j:Nat}(hj:j<n):∃g o,A=some ⟨g,o,none⟩/\g<w.1.size/\w.cell? ⟨g,o+j*4,none⟩=some (.pointer (some ⟨(Jc fs j).b,(Jc fs j).o,none⟩))/\
  w.cell? ⟨g,o+j*4+1,none⟩=some (.int .i64 (Jc fs j).wid)/\w.cell? ⟨g,o+j*4+2,none⟩=some (.int .i64 (Jc fs j).lo)/\w.cell? ⟨g,o+j*4+3,none⟩=some (.int .i64 (Jc fs j).hi):=by
 have m:j<fs.length:=by have:=h.len;omega
 obtain⟨g,o,rfl,f,_,d⟩:=Jq.at_ h hj;have e:(fs.map Uy.vs).getD j []=(Jc fs j).vs:=by unfold Jc;simp[List.getD,m]
 rw[e] at d;exact⟨g,o,rfl,f,d 0 _ rfl,d 1 _ rfl,d 2 _ rfl,d 3 _ rfl⟩
end
def Nums (w:World)(fs:List Uy)(x:Nat->Int):Prop:=∀j,j<fs.length->(Jc fs j).b<w.1.size/\w.cell? ⟨(Jc fs j).b,(Jc fs j).o,none⟩=some (.int .i64 (x j))
theorem Nums.below {w w':World}{fs:List Uy}{x:Nat->Int}(h:Nums w fs x)(hb:Below w.1.size w w'):Nums w' fs x:=λj d=>by
 obtain⟨h1,h2⟩:=h j d;exact⟨Nat.lt_of_lt_of_le h1 hb.size,(hb.cell (p:=⟨_,_,none⟩) h1).trans h2⟩
def inF (f:Uy)(x:Int):Bool:=decide (f.lo<=x/\x<=f.hi)
def G9 (fs:List Uy)(x:Nat->Int):Bool:=(List.range fs.length).all λj=>inF (Jc fs j) (x j)
theorem qwp {fs:List Uy}{x:Nat->Int}{j:Nat}(d:j<fs.length)(h:inF (Jc fs j) (x j)=false):G9 fs x=false:=by
 unfold G9;rw[List.all_eq_false];exact⟨j,List.mem_range.2 d,by rw[h];simp⟩
theorem qsy {fs:List Uy}{x:Nat->Int}(h:∀j,j<fs.length->inF (Jc fs j) (x j)=true):G9 fs x=true:=by
 unfold G9;rw[List.all_eq_true];exact λj d=>h j (List.mem_range.1 d)
theorem q5s (x a b:Int)(r:Bool)(h:decide (a<=x/\x<=b)=r)(w:World) :
  Calls Tryz.prog 176 #[.int .i64 x,.int .i64 a,.int .i64 b] w λe w'=>e=.returned (.bool r)/\w=w':=by
 subst h;go_enter Tryz.func176,Tryz.ntmps176
 go_wp2;all_goals
  go_ret;refine⟨congrArg (λx=>Ending.returned (Value.bool x)) ?_,rfl⟩;first
   |exact (decide_eq_false (by omega)).symm
   |exact decide_eq_decide.2 (by omega)
   |(rw[Bool.eq_iff_iff];simp;omega)
theorem qdb (fs:List Uy)(x:Nat->Int)(A:Option Addr)(n c:Nat)(w:World)(hF:Vz w A n c fs)(hN:Nums w fs x) :
  Calls Tryz.prog 179 #[.slice A n c] w λe w'=>e=.returned (.bool (G9 fs x))/\Below w.1.size w w':=by
 have d:=Lib.hid hF.len;obtain⟨a1,T⟩:=hF.bounds;unfold maxLen at T;go_enter Tryz.func179,Tryz.ntmps179
 go_wp2_with fail
 go_loopw [7] (λi wr=>∃j:Nat,j<=n/\i=.int .i64 (j:Int)/\(∀q,q<j->inF (Jc fs q) (x q)=true)/\Below w.1.size w wr) (λi _=>n-(intOf i).toNat)
 case atStart=>exact⟨0,Nat.zero_le _,rfl,λq hq=>by omega,Below.refl _ _⟩
 case round=>
  obtain⟨j,hj,rfl,D,E⟩:=hrel;by_cases G:j<n
  ·obtain⟨g,o,hA,hg,c0,c1,c2,c3⟩:=(hF.below E).cell G;subst hA;obtain⟨I,O⟩:=hN j (by rw[d.out];exact G);have B:=λh=>Lib.hid (qwp (fs:=fs) (x:=x) (by rw[d.out];exact G) h)
   obtain⟨f,U⟩:∃f,Jc fs j=f:=⟨_,rfl⟩;obtain⟨y,Y⟩:∃y,x j=y:=⟨_,rfl⟩;rw[U] at c0 c1 c2 c3 I O B;rw[Y] at O B;go_wp2_with fail
   have M:Below wr.1.size wr (wr.alloc (.cells #[.pointer (some ⟨f.b,f.o,none⟩),.int .i64 f.wid,.int .i64 f.lo,.int .i64 f.hi] 263)):=Qk;have K:(wr.alloc (.cells #[.pointer (some ⟨f.b,f.o,none⟩),.int .i64 f.wid,.int .i64 f.lo,.int .i64 f.hi] 263)).1[wr.1.size]?=some (.cells #[.pointer (some ⟨f.b,f.o,none⟩),.int .i64 f.wid,.int .i64 f.lo,.int .i64 f.hi] 263 (0,0)):=heap_alloc_new wr _;have Q:wr.1.size<(wr.alloc (.cells #[.pointer (some ⟨f.b,f.o,none⟩),.int .i64 f.wid,.int .i64 f.lo,.int .i64 f.hi] 263)).1.size:=by simp
   generalize wr.alloc (.cells #[.pointer (some ⟨f.b,f.o,none⟩),.int .i64 f.wid,.int .i64 f.lo,.int .i64 f.hi] 263)=J at M K Q ⊢;have q0:∀u:Grown J,u.to.cell? ⟨wr.1.size,0,none⟩=some (.pointer (some ⟨f.b,f.o,none⟩)):=Grown.cell (by rw[cell_of_row _ _ _ _ _ _ K];rfl) Q;have q2:∀u:Grown J,u.to.cell? ⟨wr.1.size,2,none⟩=some (.int .i64 f.lo):=Grown.cell (by rw[cell_of_row _ _ _ _ _ _ K];rfl) Q;have q3:∀u:Grown J,u.to.cell? ⟨wr.1.size,3,none⟩=some (.int .i64 f.hi):=Grown.cell (by rw[cell_of_row _ _ _ _ _ _ K];rfl) Q;have W:f.b<J.1.size:=by have:=E.size;have:=M.size;omega
   have qx:∀u:Grown J,u.to.cell? ⟨f.b,f.o,none⟩=some (.int .i64 y):=Grown.cell ((M.cell (p:=⟨_,_,none⟩) (by have:=E.size;show f.b<_;omega)).trans ((E.cell (p:=⟨_,_,none⟩) I).trans O)) W;have m:=E.trans (M.mono E.size);have Z:=Lib.hid U;have Hy:=Lib.hid Y;clear c0 c1 c2 c3 K O U Y
   cases P:inF f y
   ·have R:=B P;refine Uk (by kernel_rfl) (by kernel_rfl) ?_;repeat (go_big_quiet_step (first
     |(go_at_call 176;exact Calls.J6 (q5s y f.lo f.hi false P _))
     |fail))
    refine wpQuiet_nil ?_;rintro _ ⟨u,rfl⟩;have F:=m.trans (u.ok.mono m.size);go_wp2;go_ret;exact⟨by rw[R.out];rfl,F⟩
   ·clear B;refine Uk (by kernel_rfl) (by kernel_rfl) ?_;repeat (go_big_quiet_step (first
     |(go_at_call 176;exact Calls.J6 (q5s y f.lo f.hi true P _))
     |fail))
    refine wpQuiet_nil ?_;rintro _ ⟨u,rfl⟩;have F:=m.trans (u.ok.mono m.size);go_wp2;refine⟨⟨j+1,by omega,rfl,λq hq=>?_,F⟩,by simp[intOf];omega⟩;by_cases X:q=j
    ·rw[X,Z.out,Hy.out];exact P
    ·exact D q (by omega)
  ·obtain rfl:j=n:=by omega
   have H:=Lib.hid (qsy (fs:=fs) (x:=x) (by rw[d.out];exact D));go_wp2;go_ret;exact⟨by rw[H.out];rfl,E⟩
def Ce (fs:List Uy)(x:Nat->Int)(l:List UInt8):Nat->List UInt8
 |0=>l
 |k+1=>Ce fs x l k++Qy (x k) (Jc fs k).wid.toNat
theorem qj2 {fs:List Uy}{x:Nat->Int}{l:List UInt8}{n:Nat}(d:∀j,j<n->1<=(Jc fs j).wid/\(Jc fs j).wid<=7):∀k,k<=n->(Ce fs x l k).length<=l.length+7*k
 |0,_=>by simp[Ce]
 |k+1,hk=>by
  have:=qj2 (x:=x) (l:=l) d k (by omega);have:=d k (by omega);simp only[Ce,List.length_append,Xf];omega
theorem qwq (fs:List Uy)(x:Nat->Int)(A:Option Addr)(n c:Nat)(B:Option Addr)(m d:Nat)(w:World)(hF:Vz w A n c fs)(u:Nums w fs x)(y:G9 fs x=false) :
  Calls Tryz.prog 105 #[.slice B m d,.slice A n c] w λe w'=>e=.returned (.tuple #[.slice none 0 0,.int .i64 1])/\Below w.1.size w w':=by
 have p:=qdb fs x A n c w hF u;rw[y] at p;go_enter Tryz.func105,Tryz.ntmps105
 go_wp2_with (go_at_call 179;refine p.mono ?_;rintro e D ⟨rfl,f⟩)
 go_ret2;exact⟨rfl,f⟩
def IB (w:World)(b:Nat)(r:List Value):Prop:=∃t,w.1[b]?=some (.cells r.toArray t (0,0))
section
variable {w w':World}{b:Nat}{r:List Value}
theorem IB.new (w:World)(r:List Value)(t:TypeId):IB (w.alloc (.cells r.toArray t)) w.1.size r:=⟨t,heap_alloc_new w _⟩
theorem IB.keep (H:IB w b r)(h:w'.1[b]?=w.1[b]?):IB w' b r:=by
 obtain⟨t,H⟩:=H;exact⟨t,h.trans H⟩
theorem IB.below (H:IB w b r){B:Nat}(hb:Below B w w')(hB:b<B):IB w' b r:=H.keep (hb.block b hB)
theorem IB.lt (H:IB w b r):b<w.1.size:=by
 obtain⟨t,H⟩:=H;exact (Array.getElem?_eq_some_iff.1 H).1
theorem IB.cell (H:IB w b r)(j:Nat){v:Value}(hv:r[j]?=some v):w.cell? ⟨b,j,none⟩=some v:=by
 obtain⟨t,H⟩:=H;rw[cell_of_row _ _ _ _ _ _ H];simpa using hv
theorem IB.range (H:IB w b r):w.rangeAt b 0 r:=λj v d=>by
 rw[Nat.zero_add];exact H.cell j d
theorem IB.fz (H:IB w b r)(j:Nat):w.frozen? ⟨b,j,none⟩=false:=by
 obtain⟨t,H⟩:=H;unfold World.frozen?;rw[H];simp
theorem IB.there (H:IB w b r):w.there b 0 r.length:=λj d=>by
 rw[Nat.zero_add];exact⟨by rw[H.cell j (List.getElem?_eq_getElem d)];rfl,H.fz j⟩
theorem IB.set (H:IB w b r)(j:Nat)(v:Value):IB (w.setCell ⟨b,j,none⟩ v) b (r.set j v):=by
 obtain⟨t,H⟩:=H;refine⟨t,(D7 v H).trans ?_⟩;rw[List.setIfInBounds_toArray]
theorem qo1 {b:Nat}:∀(vs:List Value) (k:Nat) {w:World} {r:List Value},IB w b r->k+vs.length=r.length->IB (w.setCells b k vs) b (r.take k++vs)
 |[],k,w,r,H,hk=>by simp at hk;rw[hk];simpa [World.setCells] using H
 |v::vs,k,w,r,H,hk=>by
  have h1:=qo1 vs (k+1) (H.set k v) (by simp at hk ⊢;omega);have d:k<r.length:=by simp at hk;omega
  have e:(r.set k v).take (k+1)++vs=r.take k++v::vs:=by
   rw[List.take_succ_eq_append_getElem (by simpa using d),List.take_set_of_le (Nat.le_refl k)];simp
  rw[e] at h1;exact h1
theorem IB.all (H:IB w b r)(vs:List Value)(h:vs.length=r.length):IB (w.setCells b 0 vs) b vs:=by
 have:=qo1 vs 0 H (by omega);simpa using this
end
def Wx (fs:List Uy):Nat->Nat
 |0=>0
 |k+1=>Wx fs k+(Jc fs k).wid.toNat
def Cj (fs:List Uy)(l:List UInt8)(k:Nat):Int:=Qw ((l.drop (Wx fs k)).take (Jc fs k).wid.toNat)
def Vu (fs:List Uy)(x:Nat->Int)(r:List Value):Nat->List Value
 |0=>r
 |k+1=>(Vu fs x r k).set (Jc fs k).o (.int .i64 (x k))
def tkF (fs:List Uy)(l:List UInt8):Bool:=decide (l.length=Wx fs fs.length)&&G9 fs (Cj fs l)
theorem qex (fs:List Uy):∀{a b:Nat},a<=b->Wx fs a<=Wx fs b
 |a,0,h=>by
  obtain rfl:a=0:=by omega
  exact Nat.le_refl _
 |a,b+1,h=>by
  rcases Nat.lt_or_ge a (b+1) with h1|h1
  ·exact Nat.le_trans (qex fs (by omega)) (Nat.le_add_right _ _)
  ·obtain rfl:a=b+1:=by omega
   exact Nat.le_refl _
theorem qo2 {w w':World}{base n c:Nat}{e:TypeId}{A:Option Addr}{l:List UInt8}(h:Own w base e A n c l)(p:∀g,base<=g->g<w.1.size->w'.1[g]?=w.1[g]?):Own w' base e A n c l:=by
 refine⟨h.1,?_⟩;rcases h.2 with f|⟨g,cap,d,f,h1,m,r⟩
 ·exact .inl f
 ·exact .inr ⟨g,cap,d,f,h1,(p g h1 (Array.getElem?_eq_some_iff.1 m).1).trans m,r⟩
theorem q9o (fs:List Uy)(x:Nat->Int)(r:List Value):∀k,(Vu fs x r k).length=r.length
 |0=>rfl
 |k+1=>by simp[Vu,q9o fs x r k]
theorem qo3 (fs:List Uy)(A:Option Addr)(n c:Nat)(p:Nat)(r:List Value)(B:Option Addr)(m d:Nat)(l:List UInt8)(w:World)(hF:Vz w A n c fs)(X:∀g o,A=some ⟨g,o,none⟩->g≠p)
  (hH:IB w p r) (hs:Sl w B m d l) (hm:m<=1000000) (hn:n<=100) (hw:∀j,j<n->1<=(Jc fs j).wid/\(Jc fs j).wid<=7) (ho:∀j,j<n->(Jc fs j).b=p/\(Jc fs j).o<r.length)
  (b3:l.length=Wx fs n->∀j,j<n->(Vu fs (Cj fs l) r n)[(Jc fs j).o]?=some (.int .i64 (Cj fs l j))) :
  Calls Tryz.prog 157 #[.slice B m d,.slice A n c] w λe w'=>e=.returned (.bool (tkF fs l))/\(∃r',IB w' p r'/\(tkF fs l=true->r'=Vu fs (Cj fs l) r n))/\Turn (λk=>k=p) w w':=by
 have D:=Lib.hid hF.len;have Hl:=Lib.hid hs.len;have b5:=Lib.hid b3;clear b3;obtain⟨d0,b7⟩:=hF.bounds;unfold maxLen at b7;go_enter Tryz.func157,Tryz.ntmps157
 go_wp2_with fail
 go_loopw [0,10] (λs i wr=>∃(j:Nat) (B':Option Addr) (J d':Nat),j<=n/\s=.slice B' J d'/\i=.int .i64 (j:Int)/\Sl wr B' J d' (l.drop (Wx fs j))/\Wx fs j<=m/\IB wr p (Vu fs (Cj fs l) r j)/\Turn (λk=>k=p) w wr) (λ_ i _=>n-(intOf i).toNat)
 case atStart=>exact⟨0,B,m,d,Nat.zero_le _,rfl,rfl,by simpa [Wx] using hs,by simp[Wx],hH,Turn.refl _ _⟩
 case round=>
  obtain⟨j,B',J,d',hj,rfl,rfl,a2,hp,H,hT⟩:=hrel;have W:J=m-Wx fs j:=by have:=a2.len;rw[List.length_drop,Hl.out] at this;omega
  have Q:=Lib.hid W;have d2:J<=1000000:=by omega
  by_cases U:j<n
  ·obtain⟨g,o,hA,hg,c0,c1,c2,c3⟩:=(hF.turn hT X).cell U;have d1:=X g o hA;subst hA;obtain⟨hb,Y⟩:=ho j U;have c8:=hw j U;have M:Wx fs (j+1)=Wx fs j+(Jc fs j).wid.toNat:=rfl;have I:Vu fs (Cj fs l) r (j+1)=(Vu fs (Cj fs l) r j).set (Jc fs j).o (.int .i64 (Cj fs l j)):=rfl;have O:Cj fs l j=(Qw ((l.drop (Wx fs j)).take (Jc fs j).wid.toNat):Int):=rfl;have b2:Wx fs (j+1)<=Wx fs n:=qex fs (by omega);obtain⟨f,hf⟩:∃f,Jc fs j=f:=⟨_,rfl⟩;rw[hf] at c0 c1 c2 c3 hb Y c8 M I O;rw[hb] at c0;have Hf:=Lib.hid hf;have P:=Lib.hid I;clear hf hb I W;go_wp2_with fail
   have bx:Below wr.1.size wr (wr.alloc (.cells #[.pointer (some ⟨p,f.o,none⟩),.int .i64 f.wid,.int .i64 f.lo,.int .i64 f.hi] 263)):=Qk;have x0:(wr.alloc (.cells #[.pointer (some ⟨p,f.o,none⟩),.int .i64 f.wid,.int .i64 f.lo,.int .i64 f.hi] 263)).1[wr.1.size]?=some (.cells #[.pointer (some ⟨p,f.o,none⟩),.int .i64 f.wid,.int .i64 f.lo,.int .i64 f.hi] 263 (0,0)):=heap_alloc_new wr _;have zx:wr.1.size<(wr.alloc (.cells #[.pointer (some ⟨p,f.o,none⟩),.int .i64 f.wid,.int .i64 f.lo,.int .i64 f.hi] 263)).1.size:=by simp
   generalize wr.alloc (.cells #[.pointer (some ⟨p,f.o,none⟩),.int .i64 f.wid,.int .i64 f.lo,.int .i64 f.hi] 263)=u at bx x0 zx ⊢;have q0:u.cell? ⟨wr.1.size,0,none⟩=some (.pointer (some ⟨p,f.o,none⟩)):=by rw[cell_of_row _ _ _ _ _ _ x0];rfl
   have q1:u.cell? ⟨wr.1.size,1,none⟩=some (.int .i64 f.wid):=by rw[cell_of_row _ _ _ _ _ _ x0];rfl
   have b8:=H.lt;have H1:=H.below bx b8;have c7:=a2.below bx;have a7:Turn (λk=>k=p) w u:=hT.then (Qx bx);have b1:wr.1.size≠p:=by omega
   clear c0 c1 c2 c3 x0 a2 H hT bx;have R:∀w':World,Turn (λk=>k=p) u w'->w'.cell? ⟨wr.1.size,0,none⟩=some (.pointer (some ⟨p,f.o,none⟩))/\w'.cell? ⟨wr.1.size,1,none⟩=some (.int .i64 f.wid)/\Turn (λk=>k=p) u w':=λw' T=>⟨(World.cell?_of_block (T.block wr.1.size zx b1)).trans q0,(World.cell?_of_block (T.block wr.1.size zx b1)).trans q1,T⟩
   have TD:Turn (λk=>k=p) u u.drew:=Qx (Below.refl _ _).drew;by_cases c6:(J:Int)<f.wid
   ·have G:tkF fs l=false:=by
     unfold tkF;rw[decide_eq_false (by rw[D.out,Hl.out];have:=Q.out;omega),Bool.false_and]
    have HT:=λ(w':World)=>qcb B' J d' f.wid w' (by omega) (by omega) c6
    have F:=Lib.hid G;obtain⟨v,hv⟩:∃v,(Vu fs (Cj fs l) r j)[f.o]?=some v:=⟨_,List.getElem?_eq_getElem (by rw[q9o];exact Y)⟩;clear G O M b2 hp;have q5:=H1.cell f.o hv;have q6:=H1.fz f.o;clear hv;go_region_held3 (λw'=>w'.cell? ⟨wr.1.size,0,none⟩=some (.pointer (some ⟨p,f.o,none⟩))/\w'.cell? ⟨wr.1.size,1,none⟩=some (.int .i64 f.wid)/\Turn (λk=>k=p) u w')
     (first|assumption|exact R _ TD|(go_split_ands;exact R _ (Turn.then ‹Turn (λk=>k=p) u _› (Qx ‹Below (World.heap _).size _ _›)))|(go_split_ands;exact R _ (Turn.drew (Ac _ rfl)))|exact R _ (Turn.drew (Ac _ rfl)))
     (first
      |(go_at_call 151;refine (HT _).mono ?_;rintro e w3 ⟨rfl,rfl⟩)
      |fail)
    go_wp2;go_ret;refine⟨by rw[F.out];rfl,⟨_,H1.set f.o _,λh=>absurd h (by rw[F.out];exact Bool.false_ne_true)⟩,a7.then (TD.then (Ac _ rfl))⟩
   ·have HT:=λ(w':World) (h':Sl w' B' J d' (l.drop (Wx fs j)))=>q5b B' J d' (l.drop (Wx fs j)) f.wid w' h' (by omega) (by omega) (by omega) (by omega)
    rw[List.drop_drop,<-M,<-O] at HT;obtain⟨v,hv⟩:∃v,(Vu fs (Cj fs l) r j)[f.o]?=some v:=⟨_,List.getElem?_eq_getElem (by rw[q9o];exact Y)⟩;have b9:Wx fs (j+1)<=m:=by have:=Q.out;omega
    have c9:=Lib.hid (show (l.drop (Wx fs (j+1))).length=m-Wx fs (j+1) by rw[List.length_drop,Hl.out]);generalize Cj fs l j=y at HT P;clear O M b2 hp;go_region_held3 (λw'=>w'.cell? ⟨wr.1.size,0,none⟩=some (.pointer (some ⟨p,f.o,none⟩))/\w'.cell? ⟨wr.1.size,1,none⟩=some (.int .i64 f.wid)/\Turn (λk=>k=p) u w')
     (first|assumption|exact R _ TD|(go_split_ands;exact R _ (Turn.then ‹Turn (λk=>k=p) u _› (Qx ‹Below (World.heap _).size _ _›)))|(go_split_ands;exact R _ (Turn.then ‹Turn (λk=>k=p) u _› (Ac _ rfl))))
     (first
      |(go_at_call 151;refine (HT _ c7.drew).mono ?_;rintro e w3 ⟨A3,n3,c3,rfl,Z,K⟩;have a8:Below u.1.size u w3:=(Below.refl _ u).drew.trans K;have H3:=H1.below a8 (by omega);have q5:=H3.cell f.o hv;have q6:=H3.fz f.o)
      |fail)
    clear q5 q6;have T5:Turn (λk=>k=p) w3 (w3.setCell ⟨p,f.o,none⟩ (.int .i64 y)):=Ac _ rfl;have a1:Sl (w3.setCell ⟨p,f.o,none⟩ (.int .i64 y)) A3 n3 c3 (l.drop (Wx fs (j+1))):=(qo2 Z λg hg _=>Below.heap_setCell _ _ _ _ (by show g≠p;have h1:u.drew.1.size=u.1.size:=rfl;have:=H1.lt;omega)).sl;have H5:=H3.set f.o (.int .i64 y);rw[<-P.out] at H5;go_wp2;exact⟨⟨j+1,A3,n3,c3,by omega,rfl,rfl,a1,b9,H5,a7.then ((Qx a8).then T5)⟩,by simp[intOf];omega⟩
  ·obtain rfl:j=n:=by omega
   have E:tkF fs l=(decide (J=0)&&G9 fs (Cj fs l)):=by
    unfold tkF;rw[D.out,Hl.out];congr 1
    exact decide_eq_decide.2 (by omega)
   have b6:=hF.turn hT X;clear W;by_cases h0:J=0
   ·have a6:Nums wr fs (Cj fs l):=λq hq=>by
     obtain⟨e1,e2⟩:=ho q (by rw[<-D.out];exact hq);rw[e1];exact⟨H.lt,H.cell _ (b5.out (by rw[Hl.out];have:=Q.out;omega) q (by rw[<-D.out];exact hq))⟩
    have Hm:=qdb fs (Cj fs l) A j c wr b6 a6;have b0:tkF fs l=G9 fs (Cj fs l):=by rw[E,decide_eq_true h0,Bool.true_and]
    have b4:=Lib.hid b0;subst h0;clear E b0 a6;go_wp2_with (go_at_call 179;refine Hm.mono ?_;rintro e w3 ⟨rfl,K⟩)
    go_ret;refine⟨by rw[b4.out];rfl,⟨_,H.below K H.lt,λ_=>rfl⟩,hT.then (Qx K)⟩
   ·have G:tkF fs l=false:=by rw[E,decide_eq_false h0,Bool.false_and]
    have F:=Lib.hid G;clear E G;go_wp2;go_ret;refine⟨by rw[F.out];rfl,⟨_,H,λh=>absurd h (by rw[F.out];exact Bool.false_ne_true)⟩,hT⟩
def Jd (b:Nat):List Uy:=[⟨b,1,4,1,2147483647⟩,⟨b,2,1,1,2⟩]
theorem qwr {w:World}{b:Nat}{f:Uy}(H:IB w b f.vs):(loadVar 263 ⟨b,0,none⟩).run Tryz.prog w=.ok (.agg f.vs.toArray) w:=
 run_loadVar_mid w b 0 263 _ _ H.range Tryz.underlying263 rfl (by kernel_rfl)
theorem qvv {f:Func}{p:Tmp}{ty:TypeId}{m:Addr}{v:Value}{P:Program}{w:World}{d:Array Value}(h:f.results=#[.cell p ty])(y:d.getD p undef=.pointer (some m))(u:(loadVar ty m).run P w=.ok v w) :
  (results f d).run P w=.ok v w:=by
 have e:(results f d).run P w=((asAddr (d.getD p undef)).run P w).andThen λa B=>(loadVar ty a).run P B:=by
  simp only[results,h];simp[Sem.run_bind,Result.andThen];try rfl
 rw[e,y];simp[asAddr,u]
theorem qsz (w:World)(t:TypeId)(e:Array Value)(fs:List Uy)(n:Nat)(u:e=(fs.map Uy.vs).flatten.toArray)(hn:fs.length=n)(hm:n<=100):Vz (w.alloc (.cells e t)) (some ⟨w.1.size,0,none⟩) n n fs:=by
 have m:∀x∈fs.map Uy.vs,x.length=4:=λx d=>by
  obtain⟨f,_,rfl⟩:=List.mem_map.1 d;rfl
 refine⟨by simpa using hn,Nat.le_refl _,by unfold maxLen;omega,λj x d=>⟨w.1.size,0,rfl,by simp,m x (List.mem_of_getElem? d),λi v y=>?_⟩⟩;have p:=qjl m j x d i v y;rw[cell_of_row _ _ _ _ _ _ (heap_alloc_new w _),u,Nat.zero_add];simpa using p
theorem alB {w w':World}(u:Grown w)(o:Obj)(h:w'=u.to.alloc o):Below w.1.size w w':=by
 subst h;exact u.ok.trans ((Below.refl _ _).alloc u.ok.size _)
theorem qdc (b o:Nat)(w:World) :
  Calls Tryz.prog 181 #[.pointer (some ⟨b,o,none⟩)] w λe w'=>e=.returned (.agg #[.pointer (some ⟨b,o,none⟩),.int .i64 1,.int .i64 1,.int .i64 2])/\Below w.1.size w w':=by
 go_enter Tryz.func181,Tryz.ntmps181
 go_wp2;exact bodyPost_ret (qvv Tryz.results181 rfl (qwr (f:=⟨b,o,1,1,2⟩) (IB.new w _ _))) rfl ⟨rfl,Qk⟩
theorem q9p (b:Nat)(w:World) :
  Calls Tryz.prog 106 #[.pointer (some ⟨b,0,none⟩)] w λe w'=>∃g,e=.returned (.slice (some ⟨g,0,none⟩) 2 2)/\Vz w' (some ⟨g,0,none⟩) 2 2 (Jd b)/\w.1.size<=g/\Below w.1.size w w':=by
 go_enter Tryz.func106,Tryz.ntmps106
 go_wp2_with fail
 refine q1j 8 (by kernel_rfl) (by kernel_rfl) ?_;simp only[List.take_succ_cons,List.take_zero,List.drop_succ_cons,List.drop_zero];repeat (go_big_quiet_step (first|(go_at_call 181;exact Calls.grown (qdc b 2 _))|fail))
 refine wpQuiet_nil ?_;rintro _ ⟨u,rfl⟩;go_wp2_with fail
 go_ret;exact⟨u.to.1.size,rfl,qsz u.to _ _ (Jd b) 2 rfl rfl (by omega),u.ok.size,alB u _ rfl⟩
theorem q22 (s:ByteArray)(r:Bool)(h:decide (1<=s.size/\s.size<=20)=r)(w:World) :
  Calls Tryz.prog 103 #[.string s] w λe w'=>e=.returned (.bool r)/\w=w':=by
 go_enter Tryz.func103,Tryz.ntmps103
 go_wp2_with (go_at_call 176;refine (q5s (s.size:Int) 1 20 r (by rw[<-h];exact decide_eq_decide.2 (by omega)) w).mono ?_;rintro e d ⟨rfl,rfl⟩)
 go_ret;exact⟨rfl,rfl⟩
theorem Qb8 (a b:Uy)(x:Nat->Int):G9 [a,b] x=(inF a (x 0)&&inF b (x 1)):=by
 simp[G9,List.range,List.range.loop,Jc]
theorem q3m {P:Program}{e:Array Oper}{d:List Oper}{o:Oper}{a:Act}{w:World}{Q:Exit->Act->World->Prop}(u:o.guard=none)(ty:TypeId)(x y:Operand)(f:o.op=Op.store ty x y)
  (b:Nat) (D:a.eval x=.pointer (some ⟨b,0,none⟩)) (vs:List Value) (E:a.eval y=.agg vs.toArray) {r:List Value} (H:IB w b r) (m:vs.length=r.length) (hi:(P.info? ty).map (·.size)=some vs.length) (h1:vs.all (·.oneCell')=true)
  (p:∀w',IB w' b vs->Turn (λg=>g=b) w w'->wpList P e Q d (a.put o.dst undef) w'):wpList P e Q (o::d) a w:=
 wpList_store_mid u _ x y f b 0 vs.toArray D E (by have:=H.there;simpa [m] using this) (by simpa using hi) (all_oneCell_toArray (λv B=>(List.all_eq_true.1 h1) v B)) (p _ (H.all vs m) (Vb (S:=λg=>g=b) rfl _ 0 w))
theorem qll {P:Program}{f:Array Oper}{e:List Oper}{o:Oper}{a:Act}{w:World}{Q:Exit->Act->World->Prop}(u:o.guard=none)(ty:TypeId)(x:Operand)(m:o.op=Op.load ty x)
  (b:Nat) (B:a.eval x=.pointer (some ⟨b,0,none⟩)) (vs:List Value) (H:IB w b vs) {d:TypeDesc} (y:P.underlying ty=some d) (hd:d.isRow=true) (hi:(P.info? ty).map (·.size)=some vs.length)
  (p:wpList P f Q e (a.put o.dst (.agg vs.toArray)) w):wpList P f Q (o::e) a w:=
 wpList_load_mid u ty x m b 0 B vs d H.range y hd hi p
theorem qey {m:Func}{p a:Tmp}{ty:TypeId}{f:Addr}{v:Value}{P:Program}{w:World}{d:Array Value}(h:m.results=#[.cell p ty,.tmp a])(y:d.getD p undef=.pointer (some f))(u:(loadVar ty f).run P w=.ok v w) :
  (results m d).run P w=.ok (.tuple #[v,d.getD a undef]) w:=by
 have e:(results m d).run P w=((asAddr (d.getD p undef)).run P w).andThen λf B=>((loadVar ty f).run P B).andThen λv D=>.ok (.tuple #[v,d.getD a undef]) D:=by
  simp only[results,h];simp[Sem.run_bind,Result.andThen]
 rw[e,y];simp[asAddr,u]
structure Za where
 name:ByteArray
 ino:Int
 kind:Int
def Za.x (e:Za):Nat->Int
 |0=>e.ino
 |_=>e.kind
def Gz (x y:Int):Bool:=decide ((1<=x/\x<=2147483647)/\1<=y/\y<=2)
def q9q (s:ByteArray):Bool:=decide (1<=s.size/\s.size<=20)
def Za.may (e:Za):Bool:=q9q e.name&&Gz e.ino e.kind
def Za.bytes (e:Za):List UInt8:=(Qy e.name.size 1++e.name.data.toList)++(Qy e.ino 4++Qy e.kind 1)
def Za.vs (e:Za):List Value:=[.string e.name,.int .i64 e.ino,.int .i64 e.kind]
def Nh (l:List UInt8):Bool:=decide (1<=l.length/\1+Qw (l.take 1)<=l.length)
theorem q75 (l:List UInt8):Nh l=true↔Vg l 1:=decide_eq_true_iff
def Yx (l:List UInt8):Za:=⟨⟨(bodyT l 1).toArray⟩,Qw ((Yg l 1).take 4),Qw (((Yg l 1).drop 4).take 1)⟩
def q76 (l:List UInt8):Bool:=decide ((Yg l 1).length=5)&&Gz (Yx l).ino (Yx l).kind
def Yy (l:List UInt8):Bool:=Nh l&&(q9q (Yx l).name&&q76 l)
theorem qhb (b:Nat)(i:Za)(x:Nat->Int)(h0:x 0=i.ino)(h1:x 1=i.kind):G9 (Jd b) x=Gz i.ino i.kind:=by
 unfold Jd;rw[Qb8,h0,h1];unfold inF Gz;simp only[Bool.decide_and]
theorem qo4 (b j:Nat)(d:j<2):1<=(Jc (Jd b) j).wid/\(Jc (Jd b) j).wid<=7:=by
 match j,d with
 |0,_=>simp[Jc,Jd]
 |1,_=>simp[Jc,Jd]
theorem qws (b j:Nat)(r:List Value)(e:r.length=3)(d:j<2):(Jc (Jd b) j).b=b/\(Jc (Jd b) j).o<r.length:=by
 rw[e];match j,d with
 |0,_=>simp[Jc,Jd]
 |1,_=>simp[Jc,Jd]
theorem qyp (b:Nat)(l:List UInt8):tkF (Jd b) (Yg l 1)=q76 l:=by
 unfold tkF q76;rw[qhb b (Yx l) _ rfl rfl];rfl
theorem qo5 (b:Nat)(l:List UInt8)(s:ByteArray)(x y:Value):Vu (Jd b) (Cj (Jd b) l) [.string s,x,y] 2=[.string s,.int .i64 (Cj (Jd b) l 0),.int .i64 (Cj (Jd b) l 1)]:=rfl
theorem qo6 (b:Nat)(l:List UInt8)(s:ByteArray)(x y:Value)(j:Nat)(d:j<2):(Vu (Jd b) (Cj (Jd b) l) [.string s,x,y] 2)[(Jc (Jd b) j).o]?=some (.int .i64 (Cj (Jd b) l j)):=by
 rw[qo5 b l s];match j,d with
 |0,_=>rfl
 |1,_=>rfl
theorem qwt (b:Nat)(i:Za):Ce (Jd b) i.x (Qy i.name.size 1++i.name.data.toList) 2=i.bytes:=by
 simp[Ce,Jd,Jc,Za.x,Za.bytes]
theorem qj3 {w:World}{b:Nat}{i:Za}(H:IB w b i.vs):Nums w (Jd b) i.x:=λj d=>by
 match j,d with
 |0,_=>exact⟨H.lt,H.cell 1 rfl⟩
 |1,_=>exact⟨H.lt,H.cell 2 rfl⟩
theorem q3n {w:World}{b:Nat}{i:Za}(H:IB w b i.vs):(loadVar 32 ⟨b,0,none⟩).run Tryz.prog w=.ok (.agg #[.string i.name,.int .i64 i.ino,.int .i64 i.kind]) w:=
 run_loadVar_mid w b 0 32 _ _ H.range Tryz.underlying32 rfl (by kernel_rfl)
theorem q8a (i:Za)(h:i.may=false)(w:World) :
  Calls Tryz.prog 62 #[.agg #[.string i.name,.int .i64 i.ino,.int .i64 i.kind]] w λe w'=>e=.returned (.tuple #[.slice none 0 0,.int .i64 1])/\Below w.1.size w w':=by
 have m:IB (w.alloc (.cells i.vs.toArray 32)) w.1.size i.vs:=IB.new w _ _;have p:Below w.1.size w (w.alloc (.cells i.vs.toArray 32)):=Qk;go_enter Tryz.func62,Tryz.ntmps62
 go_wp2_with fail
 change Calls _ _ _ (w.alloc (.cells i.vs.toArray 32)) _;generalize w.alloc (.cells i.vs.toArray 32)=y at m p ⊢
 cases hn:q9q i.name
 ·refine (q22 i.name false hn y).mono ?_;rintro e G ⟨rfl,rfl⟩;go_wp2;go_ret2;exact⟨rfl,p⟩
 ·refine (q22 i.name true hn y).mono ?_;rintro e G ⟨rfl,rfl⟩;have H:Gz i.ino i.kind=false:=by unfold Za.may at h;rw[hn,Bool.true_and] at h;exact h
  have M:i.name.size<=20:=(of_decide_eq_true hn).2;have P:=m.cell 0 rfl;clear h hn;go_wp2_with (first
   |(go_at_call 104;refine (q4j none 0 0 [] i.name y (Ik _) (by omega) (by omega)).mono ?_;rintro e G ⟨J,O,c2,rfl,F,d⟩;have E:=m.below d m.lt)
   |(go_at_call 106;refine (q9p w.1.size _).mono ?_;rintro e I ⟨g,rfl,hF,K,f⟩)
   |(go_at_call 105;refine (qwq (Jd w.1.size) i.x _ _ _ _ _ _ I hF (qj3 (E.below f E.lt)) (by rw[qhb _ i _ rfl rfl];exact H)).mono ?_;rintro e Q ⟨rfl,u⟩))
  go_ret2;have B:=p.trans (d.mono p.size);have D:=B.trans (f.mono B.size);exact⟨rfl,D.trans (u.mono D.size)⟩
def Za.zero:Za:=⟨⟨#[]⟩,0,0⟩
def q3o (w:World)(l:List UInt8)(e:Ending)(w':World):Prop:=
 (Yy l=false->e=.returned (.tuple #[.agg #[.string ⟨#[]⟩,.int .i64 0,.int .i64 0],.int .i64 3]))/\(Yy l=true->e=.returned (.tuple #[.agg #[.string (Yx l).name,.int .i64 (Yx l).ino,.int .i64 (Yx l).kind],.int .i64 0]))/\Below w.1.size w w'
theorem q3o.no {w w':World}{l:List UInt8}(h:Yy l=false)(hb:Below w.1.size w w'):q3o w l (.returned (.tuple #[.agg #[.string ⟨#[]⟩,.int .i64 0,.int .i64 0],.int .i64 3])) w':=
 ⟨λ_=>rfl,λh2=>absurd (h.symm.trans h2) Bool.false_ne_true,hb⟩
theorem q3o.yes {w w':World}{l:List UInt8}{i:Za}(h:Yy l=true)(hi:Yx l=i)(hb:Below w.1.size w w'):q3o w l (.returned (.tuple #[.agg #[.string i.name,.int .i64 i.ino,.int .i64 i.kind],.int .i64 0])) w':=
 ⟨λh2=>absurd (h2.symm.trans h) Bool.false_ne_true,λ_=>by rw[hi],hb⟩
theorem qb8 (B:Option Addr)(m d:Nat)(l:List UInt8)(w:World)(hs:Sl w B m d l)(hm:m<=1000000) :
  Calls Tryz.prog 93 #[.slice B m d] w λe w'=>q3o w l e w':=by
 have W:IB (w.alloc (.cells Za.zero.vs.toArray 32)) w.1.size Za.zero.vs:=IB.new w _ _;have M:Below w.1.size w (w.alloc (.cells Za.zero.vs.toArray 32)):=Qk;go_enter Tryz.func93,Tryz.ntmps93
 go_wp2_with fail
 change Calls _ _ _ (w.alloc (.cells Za.zero.vs.toArray 32)) _;generalize w.alloc (.cells Za.zero.vs.toArray 32)=w1 at W M ⊢;have s1:=hs.below M
 cases P:Nh l
 ·have D:Yy l=false:=by unfold Yy;rw[P,Bool.false_and]
  refine (q8h B m d l w1 s1 (λh=>absurd ((q75 l).2 h) (by rw[P];exact Bool.false_ne_true))).mono ?_;rintro e f ⟨rfl,rfl⟩;have O:Below w1.1.size w1 (w1.alloc (.cells Za.zero.vs.toArray 32)):=Qk;have X:=W.below O W.lt;have p:=Lib.hid D;clear D P;go_wp2_with (refine q3m rfl _ _ _ rfl w.1.size rfl Za.zero.vs rfl (by exact X) rfl (by kernel_rfl) rfl ?_;intro w4 K T4)
  refine bodyPost_ret (qey Tryz.results93 rfl (q3n K)) rfl (q3o.no p.out ?_);have J:=M.trans (O.mono M.size);exact J.trans (T4.below (λx I=>by omega) J.size)
 ·refine (q6n B m d l w1 s1 (by omega) ((q75 l).1 P)).mono ?_;rintro e f ⟨A2,n2,c2,rfl,F,R⟩;have a6:n2<=1000000:=by have:=F.len;have:=qka l 1;have:=hs.len;omega
  have R2:=W.below R W.lt;have B2:=M.trans (R.mono M.size);have hz:=M.size;have h0:w.1.size<f.1.size:=R2.lt;obtain⟨s,E⟩:∃s,(Yx l).name=s:=⟨_,rfl⟩;have es:(⟨(bodyT l 1).toArray⟩:ByteArray)=s:=E;have H3:IB (f.alloc (.cells [Value.string s,.int .i64 0,.int .i64 0].toArray 32)) f.1.size [.string s,.int .i64 0,.int .i64 0]:=IB.new f _ _;have O:Below f.1.size f (f.alloc (.cells [Value.string s,.int .i64 0,.int .i64 0].toArray 32)):=Qk;have z3:(f.alloc (.cells [Value.string s,.int .i64 0,.int .i64 0].toArray 32)).1.size=f.1.size+1:=by simp
  rw[es];go_wp2_with fail
  change Calls _ _ _ (f.alloc (.cells [Value.string s,.int .i64 0,.int .i64 0].toArray 32)) _;generalize f.alloc (.cells [Value.string s,.int .i64 0,.int .i64 0].toArray 32)=w3 at H3 O z3 ⊢;have X:=R2.below O h0;have s3:=F.sl.below O;have J:=B2.trans (O.mono B2.size);clear W M s1 F R R2 B2 O
  cases G:q9q s
  ·have D:Yy l=false:=by unfold Yy;rw[E,G,Bool.false_and,Bool.and_false]
   have p:=Lib.hid D;clear D P;refine (q22 s false G w3).mono ?_;rintro e w' ⟨rfl,rfl⟩;go_wp2_with (refine q3m rfl _ _ _ rfl w.1.size rfl Za.zero.vs rfl (by exact X) rfl (by kernel_rfl) rfl ?_;intro w4 K T4)
   refine bodyPost_ret (qey Tryz.results93 rfl (q3n K)) rfl (q3o.no p.out ?_);exact J.trans (T4.below (λx I=>by omega) J.size)
  ·have H:Yy l=q76 l:=by unfold Yy;rw[E,P,G,Bool.true_and,Bool.true_and]
   refine (q22 s true G w3).mono ?_;rintro e w' ⟨rfl,rfl⟩;go_wp2_with fail
   refine (q9p f.1.size w3).mono ?_;rintro e w4 ⟨g,rfl,hF,hg,u⟩;have K:=X.below u X.lt;have H4:=H3.below u H3.lt;have s4:=s3.below u;have T:=J.trans (u.mono J.size);have U:=qo3 (Jd f.1.size) (some ⟨g,0,none⟩) 2 2 f.1.size _ A2 n2 c2 (Yg l 1) w4 hF (λg' o e=>by injection e with e;injection e with e1;omega) H4 s4 a6 (by omega) (qo4 _) (λj hj=>qws _ j _ rfl hj) (λ_ j hj=>qo6 _ _ _ _ _ j hj);rw[qyp,qo5] at U;have a2:¬(w.1.size=f.1.size):=by omega
   have a1:=Lib.hid h0;clear X H3 s3 J u hz z3
   cases Y:q76 l
   ·rw[Y] at U;have p:=Lib.hid (H.trans Y);clear H Y P;go_wp2_with (first
     |(go_at_call 157;refine U.mono ?_;rintro e w5 ⟨rfl,-,Q⟩;have R5:=K.keep (Q.block _ K.lt a2))
     |(refine q3m rfl _ _ _ rfl w.1.size rfl Za.zero.vs rfl R5 rfl (by kernel_rfl) rfl ?_;intro w6 R6 T6))
    refine bodyPost_ret (qey Tryz.results93 rfl (q3n R6)) rfl (q3o.no p.out ?_);exact T.trans ((Q.below (B:=w.1.size) (λx I=>by have:=a1.out;omega) T.size).trans (T6.below (λx I=>by omega) (Nat.le_trans T.size Q.size)))
   ·rw[Y] at U;have Z:=Lib.hid (H.trans Y);obtain⟨x,I⟩:∃x,(Yx l).ino=x:=⟨_,rfl⟩;obtain⟨y,hy⟩:∃y,(Yx l).kind=y:=⟨_,rfl⟩;have ex:Cj (Jd f.1.size) (Yg l 1) 0=x:=I;have ey:Cj (Jd f.1.size) (Yg l 1) 1=y:=hy;rw[ex,ey] at U;have Hi:=Lib.hid (show Yx l=⟨s,x,y⟩ by rw[<-E,<-I,<-hy]);clear H Y P ex ey I hy E es;go_wp2_with (first
     |(go_at_call 157;refine U.mono ?_;rintro e w5 ⟨rfl,⟨r',H5,a7⟩,Q⟩;obtain rfl:=a7 trivial;have R5:=K.keep (Q.block _ K.lt a2))
     |(refine qll rfl _ _ rfl f.1.size rfl _ H5 Tryz.underlying32 rfl (by kernel_rfl) ?_)
     |(refine q3m rfl _ _ _ rfl w.1.size rfl (Za.mk s x y).vs rfl R5 rfl (by kernel_rfl) rfl ?_;intro w6 R6 T6))
    refine bodyPost_ret (qey Tryz.results93 rfl (q3n R6)) rfl (q3o.yes Z.out Hi.out ?_);exact T.trans ((Q.below (B:=w.1.size) (λx I=>by have:=a1.out;omega) T.size).trans (T6.below (λx I=>by omega) (Nat.le_trans T.size Q.size)))
theorem qt0 (s:List UInt8)(r:List UInt8)(h:s.length<=20):Vg ((Qy (s.length:Int) 1++s)++r) 1/\bodyT ((Qy (s.length:Int) 1++s)++r) 1=s/\Yg ((Qy (s.length:Int) 1++s)++r) 1=r:=by
 have d:((Qy (s.length:Int) 1++s)++r).take 1=Qy (s.length:Int) 1:=by rw[List.append_assoc];exact List.take_left' (Xf _ _)
 have f:((Qy (s.length:Int) 1++s)++r).drop 1=s++r:=by rw[List.append_assoc];exact List.drop_left' (Xf _ _)
 have e:Qw (Qy (s.length:Int) 1)=s.length:=by rw[qf0];omega
 refine⟨?_,?_,?_⟩
 ·unfold Vg;rw[d,e];simp[Xf]
 ·unfold bodyT;rw[d,f,e];exact List.take_left' rfl
 ·unfold Yg;rw[d,e,<-List.drop_drop,f];exact List.drop_left' rfl
theorem q9r (e:Za):e.bytes.length=6+e.name.size:=by
 have d:e.name.data.size=e.name.size:=rfl;simp[Za.bytes,Xf];omega
theorem qt1 (e:Za)(h:e.may=true):Yx e.bytes=e/\Yy e.bytes=true:=by
 obtain⟨hn,p⟩:=Bool.and_eq_true_iff.1 h;have B:=of_decide_eq_true hn;have hm:=of_decide_eq_true p;have u:e.name.data.toList.length=e.name.size:=by simp
 obtain⟨f,m,d⟩:=qt0 e.name.data.toList (Qy e.ino 4++Qy e.kind 1) (by omega);rw[u] at f m d;have y:(Qy (e.name.size:Int) 1++e.name.data.toList)++(Qy e.ino 4++Qy e.kind 1)=e.bytes:=rfl;rw[y] at f m d;have hi:Yx e.bytes=e:=by
  unfold Yx;rw[m,d,List.take_left' (Xf _ _),List.drop_left' (Xf _ _),List.take_of_length_le (by rw[Xf];omega),q4v e.ino 4 (by omega) (by omega),q4v e.kind 1 (by omega) (by omega)]
 refine⟨hi,?_⟩;unfold Yy q76;rw[hi,hn,p,(q75 _).2 f,d];simp[Xf]
def Lh (l:List UInt8):Za:=if Yy l=true then Yx l else Za.zero
def Fv (l:List UInt8):Int:=if Yy l=true then 0 else 3
theorem qwu {l:List UInt8}(h:Yy l=false):Lh l=Za.zero/\Fv l=3:=by unfold Lh Fv;rw[h];exact⟨rfl,rfl⟩
theorem qdd {l:List UInt8}(h:Yy l=true):Lh l=Yx l/\Fv l=0:=by unfold Lh Fv;rw[if_pos h,if_pos h];exact⟨rfl,rfl⟩
theorem q9s (B:Option Addr)(m d:Nat)(l:List UInt8)(w:World)(y:Sl w B m d l)(hm:m<=1000000) :
  Calls Tryz.prog 93 #[.slice B m d] w λe w'=>e=.returned (.tuple #[.agg #[.string (Lh l).name,.int .i64 (Lh l).ino,.int .i64 (Lh l).kind],.int .i64 (Fv l)])/\Below w.1.size w w':=by
 refine (qb8 B m d l w y hm).mono λe w' ⟨h1,h2,u⟩=>⟨?_,u⟩
 cases h:Yy l
 ·obtain⟨f,p⟩:=qwu h;rw[f,p];exact h1 h
 ·obtain⟨f,p⟩:=qdd h;rw[f,p];exact h2 h
