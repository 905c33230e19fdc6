/- Words for slices whose cells are read, over the kit's library; nothing here speaks of one  -/
import Derived.Test.YtloolbmdiimanaaGreatDoorGvCrc
import Derived.WalkKit
import Derived.Deep.Draws
import Derived.Deep.AppendLies
import Derived.Maps.AppendAt
import Derived.Lib.ConvBytes
import Derived.ProofKit
import Derived.OpenShut
import Derived.Carry
import Derived.ChangeSame
import Derived.SizedLaws
import Derived.SliceStrings
import Derived.ChangeMaps5
import Derived.Maps.RangeRun
import Derived.Maps.Keyed
import Derived.Test.YtloolbmdiimanaaGreatDoorRows
import Derived.Laws.BitsAll
import Derived.LaidMore
import Derived.LaidHandle
import Derived.MakeChecks
import Derived.Deep.Matrix
import Derived.Stop.Joined
import Derived.Lay
import Derived.LaidOnce
namespace Go.Proofs.YtloolbmdiimanaaGreatDoor
open Go Go.RowKit Go.Proofs Tryz
set_option maxHeartbeats 400000
theorem Ql {w:WD}{o:Obj}:Below w.1.size w (w.alloc o):=(AI _ _).alloc (AE _) _
theorem q9u {k:IntKind}{a b:Int}(h:a=b):Ending.returned (.int k a)=.returned (.int k b):=by rw[h]
def bv (b:UInt8):Value:=.int .u8 (b.toNat:Int)
def Xr (l:LU)(k:Nat):Nat:=(l.getD k 0).toNat
theorem q8h (l:LU)(k:Nat):Xr l k<=255:=by have:=(l.getD k 0).toNat_lt;unfold Xr;omega
theorem q9v (l:LU)(k:Nat)(h:k<l.length):l.take (k+1)=l.take k++[UInt8.ofNat (Xr l k)]:=by
 rw[List.take_succ_eq_append_getElem h];simp[Xr,List.getD,h]
theorem Oa (a:Addr)(n:Nat):(a.add n).block=a.block:=by unfold Addr.add;split<;>rfl
theorem qjd (a:Addr)(i j:Nat):(a.add i).add j=a.add (i+j):=by
 unfold Addr.add;by_cases hi:i=0<;>by_cases d:j=0<;>simp[hi,d,Nat.add_assoc]
def Holds (w:WD)(B:Nat)(A:OA)(n c:Nat)(xs:LV):Prop:=
 xs.length=n/\n<=c/\c<=maxLen/\∀(j:Nat) u,xs[j]?=some u->∃d,A=some d/\d.block<B/\w.cell? (d.add j)=some u
def Sl (w:WD)(A:OA)(n c:Nat)(l:LU):Prop:=Holds w w.1.size A n c (l.map bv)
section
variable {w w':WD}{B B' n c:Nat}{A:OA}{xs:LV}
theorem Holds.len (h:Holds w B A n c xs):xs.length=n:=h.1
theorem Holds.keep (h:Holds w B A n c xs)(hk:∀p:Addr,p.block<B->w'.cell? p=w.cell? p):Holds w' B A n c xs:=
 ⟨h.1,h.2.1,h.2.2.1,λj u m=>by
  obtain⟨f,e,d,g⟩:=h.2.2.2 j u m;exact⟨f,e,d,(hk _ (by rw[Oa];exact d)).trans g⟩⟩
theorem Holds.more (h:Holds w B A n c xs)(hB:B<=B'):Holds w B' A n c xs:=
 ⟨h.1,h.2.1,h.2.2.1,λj u g=>by
  obtain⟨d,e,m,f⟩:=h.2.2.2 j u g;exact⟨d,e,by omega,f⟩⟩
theorem Holds.below (h:Holds w B A n c xs)(hb:Below B w w'):Holds w' B A n c xs:=h.keep λ_ d=>hb.cell d
end
section
variable {w w':WD}{n c:Nat}{A:OA}{l:LU}
theorem Sl.len (h:Sl w A n c l):l.length=n:=by simpa using h.1
theorem Sl.cap (h:Sl w A n c l):n<=c:=h.2.1
theorem Sl.max (h:Sl w A n c l):c<=maxLen:=h.2.2.1
theorem Sl.below (h:Sl w A n c l)(hb:Below w.1.size w w'):Sl w' A n c l:=(Holds.below h hb).more hb.size
theorem Sl.drew (h:Sl w A n c l):Sl w.drew A n c l:=h
theorem Sl.cell (h:Sl w A n c l){k:Nat}(hk:k<n):∃d,A=some d/\d.block<w.1.size/\w.cell? (d.add k)=some (.int .u8 (Xr l k:Int)):=by
 have f:k<l.length:=by have:=h.len;omega
 obtain⟨d,e,g,m⟩:=h.2.2.2 k (bv l[k]) (by simp[f]);exact⟨d,e,g,by rw[m];unfold Xr bv;rw[AG,AC f];rfl⟩
theorem Sl.take (h:Sl w A n c l){k:Nat}(hk:k<=n):Sl w A k c (l.take k):=by
 refine⟨by have:=h.len;simp;omega,by have:=h.cap;omega,h.max,λj u d=>h.2.2.2 j u ?_⟩;rw[List.map_take,List.getElem?_take] at d;split at d
 ·exact d
 ·cases d
theorem Sl.drop (h:Sl w A n c l){k:Nat}(hk:k<=n):Sl w (if c=k then A else A.map (·.add k)) (n-k) (c-k) (l.drop k):=by
 refine⟨by have:=h.len;simp;omega,by have:=h.cap;omega,by have:=h.max;omega,λj u d=>?_⟩;rw[List.map_drop,List.getElem?_drop] at d;obtain⟨f,rfl,g,m⟩:=h.2.2.2 _ u d;have p:k+j<n:=by
  have:=h.1;have h2:=(List.getElem?_eq_some_iff.1 d).1;omega
 rw[AB (by have:=h.cap;omega)];exact⟨f.add k,rfl,by rw[Oa];exact g,by rw[qjd];exact m⟩
end
structure Vx (P:Program)(t e:TypeId):Prop where
 sl:P.underlying t=some (.slice e)
 info:(P.info? e).map (λi=>(i.zero,i.size,i.bytes))=some (some (.int .u8 0),1,1)
def Own (w:WD)(base:Nat)(e:TypeId)(A:OA)(n c:Nat)(l:LU):Prop:=w.ownsRow base e 1 (.slice A n c) n (l.map bv)
theorem qf8 (l:LU):∀u∈l.map bv,u.oneCell'=true:=by
 intro u d;obtain⟨_,_,rfl⟩:=List.mem_map.1 d;rfl
section
variable {w w':WD}{base n c:Nat}{e:TypeId}{A:OA}{l:LU}
theorem Own.len (h:Own w base e A n c l):l.length=n:=by have:=h.1;simpa using this
theorem Own.sl (h:Own w base e A n c l):Sl w A n c l:=by
 refine⟨by have:=h.len;simpa using this,?_,?_,λj u p=>?_⟩
 ·rcases h.2 with⟨d,rfl⟩|⟨g,cap,f,d,_,_,h1,h2,_⟩
  ·omega
  ·injection d with _ _ m;omega
 ·rcases h.2 with⟨d,rfl⟩|⟨g,cap,f,d,_,_,h1,h2,_⟩
  ·injection d with _ _ m;unfold maxLen;omega
  ·injection d with _ _ m;omega
 ·rcases h.2 with⟨d,rfl⟩|⟨g,cap,f,d,F,D,h1,h2,m,E⟩
  ·have:=h.len;have h0:=(List.getElem?_eq_some_iff.1 p).1;simp at h0;omega
  ·have y:A=some ⟨g,0,none⟩:=by injection d
   subst y;exact⟨_,rfl,(Array.getElem?_eq_some_iff.1 D).1,h.cells (g:=g) rfl j u p⟩
theorem Own.block (h:Own w base e A n c l):∀d,A=some d->base<=d.block/\d.block<w.1.size:=by
 intro d f;subst f;exact h.lt d.block rfl
theorem Own.at_ {g:Nat}(h:Own w base e (some ⟨g,0,none⟩) n c l)(j:Nat)(hj:j<n):w.cell? ⟨g,j,none⟩=some (.int .u8 (Xr l j:Int))/\w.frozen? ⟨g,j,none⟩=false:=by
 have d:=h.len;refine⟨?_,World.ownsRow.frozenAt h j⟩;rw[World.ownsRow.cellAt h j (by omega),BA,AC (by omega)];unfold Xr;rw[AG,AC (by omega)];rfl
theorem Own.G7 {g:Nat}(h:Own w base e (some ⟨g,0,none⟩) n c l)(j:Nat)(b:UInt8):Own (w.setCell ⟨g,j,none⟩ (bv b)) base e (some ⟨g,0,none⟩) n c (l.set j b):=by
 unfold Own;rw[List.map_set];exact (World.ownsRow.stored h j (bv b)).1
theorem Own.less {b:Nat}(h:Own w base e A n c l)(hb:b<=base):Own w b e A n c l:=by
 refine⟨h.1,?_⟩;rcases h.2 with f|⟨g,cap,d,f,h1,r⟩
 ·exact .inl f
 ·exact .inr ⟨g,cap,d,f,AZ hb h1,r⟩
theorem Own.drew (h:Own w base e A n c l):Own w.drew base e A n c l:=h
theorem Own.below (h:Own w base e A n c l)(hb:Below w.1.size w w'):Own w' base e A n c l:=by
 refine⟨h.1,?_⟩;rcases h.2 with f|⟨g,cap,d,f,h1,m,r⟩
 ·exact .inl f
 ·exact .inr ⟨g,cap,d,f,h1,(hb.block g (Array.getElem?_eq_some_iff.1 m).1).trans m,r⟩
end
section
variable {P:Program}{t e:TypeId}(w:WD)
theorem qny (n:Nat):(madeCells (Value.int .u8 0).cells (n*1)).toList=(List.replicate n (0:UInt8)).map bv:=by
 rw[show (Value.int .u8 0).cells=#[.int .u8 0] from rfl,Nat.mul_one,toList_madeCells_one];simp[bv]
theorem q9w (T:Vx P t e){f:Array Oper}{d:List Oper}{o:Oper}{a:Act}{Q:Exit->Act->WD->Prop}
  (F:o.guard=none) (l c:Operand) (g:o.op=Op.makeSlice t l c) (y kc:IntKind) (n:Nat) (G:a.eval l=.int y (n:Int)) (E:a.eval c=.int kc (n:Int)) (I:n<=281474976710656)
  (D:∀w',Own w' w.1.size e (some ⟨w.1.size,0,none⟩) n n (List.replicate n 0)->Below w.1.size w w'->wpList P f Q d (a.put o.dst (.slice (some ⟨w.1.size,0,none⟩) n n)) w') :
  wpList P f Q (o::d) a w:=by
 obtain⟨i,hi,m,p,u⟩:=info_parts T.info;refine wpList_make_full w F l c t g w.1.size e i _ 1 T.sl hi m p y kc _ _ n G E rfl rfl (by rw[u];omega) (by unfold maxLen;omega) (AE _) λw' h1 h2=>?_
 refine D w' ?_ ((AI _ _).grown h2 (AE _) (by simp));unfold Own;rw[<-qny];exact h1
theorem qf9 (T:Vx P t e){f:Array Oper}{d:List Oper}{o:Oper}{a:Act}{Q:Exit->Act->WD->Prop}
  (F:o.guard=none) (l c:Operand) (g:o.op=Op.makeSlice t l c) (y kc:IntKind) (n:Nat) (G:a.eval l=.int y 0) (E:a.eval c=.int kc (n:Int)) (I:n<=281474976710656)
  (D:∀w',Own w' w.1.size e (some ⟨w.1.size,0,none⟩) 0 n []->Below w.1.size w w'->wpList P f Q d (a.put o.dst (.slice (some ⟨w.1.size,0,none⟩) 0 n)) w') :
  wpList P f Q (o::d) a w:=by
 obtain⟨i,hi,m,p,u⟩:=info_parts T.info;refine wpList_make_own w F l c t g w.1.size e i _ 1 T.sl hi m p y kc _ n G E rfl (by rw[u];omega) (by unfold maxLen;omega) (AE _) λw' h1 h2=>?_
 exact D w' h1 ((AI _ _).grown h2 (AE _) (by simp))
theorem q6i (T:Vx P t e)(ty:TypeId)(base:Nat)(A:OA)(n c:Nat)(l:LU)(f:Own w base e A n c l)
  (B:OA) (m d:Nat) (D:LU) (J:Sl w B m d D) (a0:n+m<=140737488355328) (p:base<=w.1.size) :
  ∃E F w',(Builtin.append_ #[t,t] ty #[.slice A n c,.slice B m d]).run P w=.ok (.slice E (n+m) F) w'/\Own w' base e E (n+m) F (l++D)/\Below base w w'/\
   w.grownBy w' (Value.ownBlock (.slice A n c)):=by
 obtain⟨i,hi,R,U,W⟩:=info_parts T.info;have fin:∀I w',(Builtin.append_ #[t,t] ty #[.slice A n c,.slice B m d]).run P w=.ok I w'->w'.ownsRow base e 1 I (n+m) (l.map bv++D.map bv)->
   w.grownBy w' (Value.ownBlock (.slice A n c))->∃E F w',(Builtin.append_ #[t,t] ty #[.slice A n c,.slice B m d]).run P w=.ok (.slice E (n+m) F) w'/\Own w' base e E (n+m) F (l++D)/\Below base w w'/\
   w.grownBy w' (Value.ownBlock (.slice A n c)):=by
  intro I w' h1 h2 G;have X:Below base w w':=(AI _ _).grown G p (λk hk=>(f.lt k hk).1);rw[<-List.map_append] at h2;rcases h2.2 with⟨rfl,h0⟩|⟨g,cap,M,rfl,_⟩
  ·exact⟨none,0,w',by rw[h1,h0],by unfold Own;rw[h0] at h2 ⊢;exact h2,X,G⟩
  ·exact⟨_,_,w',h1,h2,X,G⟩
 rcases B with _|K
 ·have hm:m=0:=by
   rcases Nat.eq_zero_or_pos m with h0|h0
   ·exact h0
   ·obtain⟨K,h,_⟩:=J.cell h0
    cases h
  subst hm;have hn:D=[]:=BF J.len;subst hn;refine fin (.slice A n c) w ?_ (by rw[Nat.add_zero,List.map_nil,BM];exact f) (World.grownBy.refl w _);rcases f.2 with⟨Q,rfl⟩|⟨g,cap,M,Q,_,_,O,_⟩
  ·rw[Q];simp[Builtin.append_,run_underlying T.sl,sizeOf,typeInfo,hi,Builtin.lenOf,Builtin.firstCells]
  ·rw[Q];simp[Builtin.append_,run_underlying T.sl,sizeOf,typeInfo,hi,Builtin.lenOf,Builtin.firstCells,O,storeCells]
 ·have y:∀j u,(D.map bv)[j]?=some u->w.cell? (K.add j)=some u:=by
   intro j u hu;obtain⟨Y,h,_,Z⟩:=J.2.2.2 j u hu;injection h with h;subst h;exact Z
  obtain⟨I,w',h1,h2,G,_,_⟩:=run_append_own_at (P:=P) w base t ty e i _ 1 1 T.sl hi R U W rfl (by omega) _ n _ f K m d (D.map bv) (by have:=J.len;simpa using this) y (qf8 _) (by unfold maxLen;omega) (by omega) p;exact fin I w' h1 h2 G
theorem q5z (T:Vx P t e){y:Array Oper}{f:List Oper}{o:Oper}{a:Act}{Q:Exit->Act->WD->Prop}(F:o.guard=none)(s x:Operand)
  (O:o.op=.call { callee:=.builtin .append,args:=#[s,x],argTypes:=#[t,t] })
  (base:Nat) (A:OA) (n c:Nat) (l:LU) (U:a.eval s=.slice A n c) (p:Own w base e A n c l)
  (B:OA) (m d:Nat) (I:LU) (W:a.eval x=.slice B m d) (R:Sl w B m d I) (G:n+m<=140737488355328) (g:base<=w.1.size)
  (h:∀D E w',Own w' base e D (n+m) E (l++I)->Below base w w'->wpList P y Q f (a.put o.dst (.slice D (n+m) E)) w'):wpList P y Q (o::f) a w:=
 wpList_plain F λK M=>by
  obtain⟨D,E,w',u,h2,J,_⟩:=q6i (P:=P) w T o.type base A n c l p B m d I R G g;unfold Oper.wp execOp;simp only[O,resolve,invoke,builtin,Sem.run_bind,Sem.run_pure,Result.andThen_ok,List.map_toArray,BJ,List.map_nil,U,W,u];exact M _ _ (h D E w' h2 J)
end
def nth (ls:List (LU))(j:Nat):LU:=ls.getD j []
def Parts (w:WD)(A:OA)(k c:Nat)(ls:List (LU)):Prop:=
 ls.length=k/\k<=c/\c<=maxLen/\∀(j:Nat) l,ls[j]?=some l->∃f B n d,A=some f/\f.block<w.1.size/\w.cell? (f.add j)=some (.slice B n d)/\Sl w B n d l
section
variable {w w':WD}{k c:Nat}{A:OA}{ls:List (LU)}
theorem Parts.len (h:Parts w A k c ls):ls.length=k:=h.1
theorem Parts.below (h:Parts w A k c ls)(hb:Below w.1.size w w'):Parts w' A k c ls:=
 ⟨h.1,h.2.1,h.2.2.1,λj l p=>by
  obtain⟨g,B,n,d,e,f,m,u⟩:=h.2.2.2 j l p;exact⟨g,B,n,d,e,Nat.lt_of_lt_of_le f hb.size,(hb.cell (by rw[Oa];exact f)).trans m,u.below hb⟩⟩
theorem Parts.cell (h:Parts w A k c ls){j:Nat}(hj:j<k):∃f B n d,A=some f/\f.block<w.1.size/\w.cell? (f.add j)=some (.slice B n d)/\Sl w B n d (nth ls j):=by
 have m:j<ls.length:=by have:=h.1;omega
 have g:ls[j]?=some (nth ls j):=by simp[nth,List.getD,m]
 exact h.2.2.2 j _ g
end
def cat (ls:List (LU))(j:Nat):LU:=(ls.take j).flatten
def tot (ls:List (LU))(j:Nat):Nat:=(cat ls j).length
theorem qsg (ls:List (LU)):cat ls 0=[]:=by simp[cat]
theorem qsh (ls:List (LU)):tot ls 0=0:=by simp[tot,cat]
theorem qje (ls:List (LU))(k:Nat)(h:k<ls.length):cat ls (k+1)=cat ls k++nth ls k:=by
 unfold cat nth;rw[List.take_succ_eq_append_getElem h,List.flatten_append];simp[List.getD,h]
theorem qjf (ls:List (LU))(k:Nat)(h:k<ls.length):tot ls (k+1)=tot ls k+(nth ls k).length:=by
 unfold tot;rw[qje ls k h,AD]
theorem qvh (ls:List (LU))(k m:Nat)(h:k<=m):tot ls k<=tot ls m:=by
 unfold tot cat;have e:(ls.take m).flatten=(ls.take k).flatten++((ls.take m).drop k).flatten:=by
  rw[<-List.flatten_append];congr 1
  have h2:=AV k (ls.take m);rw[List.take_take,Nat.min_eq_left h] at h2;exact h2.symm
 rw[e,AD];omega
theorem Sl.alloc {w:WD}{A:OA}{n c:Nat}{l:LU}(h:Sl w A n c l)(o:Obj):Sl (w.alloc o) A n c l:=h.below ((AI _ _).alloc (AE _) o)
theorem q60 (w:WD)(d:Array Value)(t:TypeId)(j:Nat):(w.alloc (.cells d t)).cell? ((⟨w.1.size,0,none⟩:Addr).add j)=d[j]?:=by
 rw[Addr.add_lit,AT];exact cell_of_row (w.alloc (.cells d t)) w.1.size j d t (0,0) (BE w _)
theorem Bl {w:WD}(t:TypeId){B:OA}{n d:Nat}{l:LU}(h:Sl w B n d l):Parts (w.alloc (.cells #[.slice B n d] t)) (some ⟨w.1.size,0,none⟩) 1 1 [l]:=by
 refine⟨rfl,AE _,by unfold maxLen;omega,λj g f=>?_⟩;rcases j with _|j
 ·obtain rfl:l=g:=by simpa using f
  exact⟨_,B,n,d,rfl,by simp,q60 w _ t 0,h.alloc _⟩
 ·simp at f
theorem Qbh {w:WD}(t:TypeId){B f:OA}{n d u g:Nat}{l p:LU}(h:Sl w B n d l)(h2:Sl w f u g p) :
  Parts (w.alloc (.cells #[.slice B n d,.slice f u g] t)) (some ⟨w.1.size,0,none⟩) 2 2 [l,p]:=by
 refine⟨rfl,AE _,by unfold maxLen;omega,λj y m=>?_⟩;rcases j with _|_|j
 ·obtain rfl:l=y:=by simpa using m
  exact⟨_,B,n,d,rfl,by simp,q60 w _ t 0,h.alloc _⟩
 ·obtain rfl:p=y:=by simpa using m
  exact⟨_,f,u,g,rfl,by simp,q60 w _ t 1,h2.alloc _⟩
 ·simp at m
theorem Qbi {w:WD}(t:TypeId){B g m:OA}{n d F p G u:Nat}{l D E:LU}(h:Sl w B n d l)(h2:Sl w g F p D)(I:Sl w m G u E) :
  Parts (w.alloc (.cells #[.slice B n d,.slice g F p,.slice m G u] t)) (some ⟨w.1.size,0,none⟩) 3 3 [l,D,E]:=by
 refine⟨rfl,AE _,by unfold maxLen;omega,λj y f=>?_⟩;rcases j with _|_|_|j
 ·obtain rfl:l=y:=by simpa using f
  exact⟨_,B,n,d,rfl,by simp,q60 w _ t 0,h.alloc _⟩
 ·obtain rfl:D=y:=by simpa using f
  exact⟨_,g,F,p,rfl,by simp,q60 w _ t 1,h2.alloc _⟩
 ·obtain rfl:E=y:=by simpa using f
  exact⟨_,m,G,u,rfl,by simp,q60 w _ t 2,I.alloc _⟩
 ·simp at f
theorem Qaj (l:LU):cat [l] 1=l:=by simp[cat]
theorem Qcr (l d:LU):cat [l,d] 2=l++d:=by simp[cat]
theorem Qcs (l d f:LU):cat [l,d,f] 3=l++(d++f):=by simp[cat]
theorem Qat (l:LU):tot [l] 1=l.length:=by simp[tot,cat]
theorem Qc4 (l d:LU):tot [l,d] 2=l.length+d.length:=by simp[tot,cat]
theorem Qc5 (l d f:LU):tot [l,d,f] 3=l.length+(d.length+f.length):=by simp[tot,cat]
theorem qw7 (w:WD)(e:TypeId)(l:LU)(d:Array Value)(h:d.toList=l.map bv)(hm:l.length<=16777216):Own (w.alloc (.cells d e)) w.1.size e (some ⟨w.1.size,0,none⟩) l.length l.length l:=by
 have f:d.size=l.length:=by rw[<-Array.length_toList,h,AF]
 have:=World.ownsRow_lit (e:=e) (size:=1) w d l.length (AE _) (by unfold maxLen;omega) (by omega);rw[h] at this;exact this
theorem qnz (w:WD)(e:TypeId)(b:UInt8)(v:Value)(h:bv b=v):Own (w.alloc (.cells #[v] e)) w.1.size e (some ⟨w.1.size,0,none⟩) 1 1 [b]:=
 qw7 w e [b] #[v] (by rw[<-h];rfl) (by simp)
theorem q1r {B:Nat}{a w:WD}(h:Below B a w)(n:Nat):Below B a (w.drewN n):=⟨h.os,h.tape,h.output,h.size,h.block⟩
theorem qlk (l:LU)(b:ByteArray):(l.map (λx:UInt8=>(x.toNat:Int))).foldl (λr n=>r.push (UInt8.ofNat n.toNat)) b=⟨b.data++l.toArray⟩:=by
 induction l generalizing b with
 |nil=>simp
 |cons x l ih=>
  rw[BJ,List.foldl_cons,ih];have e:UInt8.ofNat ((x.toNat:Int)).toNat=x:=by simp
  rw[e]
  cases b;simp[ByteArray.push]
theorem q61 {P:Program}(src d e:TypeId)(T:Vx P src e)(y:P.underlying e=some (.int .u8))(hd:P.underlying d=some .string){w:WD}{A:OA}{n c:Nat}{l:LU}(h:Sl w A n c l) :
  (convert src d (.slice A n c)).run P w=.ok (.string ⟨l.toArray⟩) w:=by
 rw[run_convert_bytes_string w src d e A n c T.sl y hd];rcases A with _|a
 ·have D:l=[]:=by
   rcases l with _|⟨x,l⟩
   ·rfl
   ·obtain⟨m,f,_⟩:=h.2.2.2 0 (bv x) rfl
    cases f
  subst D;simp[Conv.bytesToString,Sem.run_pure];rfl
 ·have g:∀(j:Nat) v,(l.map bv)[j]?=some v->w.cell? (a.add j)=some v:=λj u E=>by
   obtain⟨m,f,_,g⟩:=h.2.2.2 j u E;injection f with f;subst f;exact g
  have h2:=run_loadCells_list (P:=P) w a (l.map bv) g;rw[AF,h.len] at h2;have p:l.map bv=(l.map (λx:UInt8=>(x.toNat:Int))).map (Value.int .u8):=by simp[bv,Function.comp_def]
  rw[p] at h2;rw[run_bytesToString w a n c _ h2,qlk];simp[ByteArray.empty,ByteArray.emptyWithCapacity];rfl
theorem qbz (w:WD)(e:TypeId)(s:ByteArray)(h:s.size<=maxLen):Sl (Lib.bytesWorld w e s) (some ⟨w.1.size,0,none⟩) s.size (grownCap w s.size 0 e) s.data.toList:=by
 refine⟨by simp,grownCap_ge _ _ _ _,grownCap_le_maxLen _ _ _ _ h,λj u f=>⟨_,rfl,by rw[Lib.bytesWorld_size];simp,?_⟩⟩;have g:j<s.size:=by have:=(List.getElem?_eq_some_iff.1 f).1;simpa using this
 rw[Addr.add_lit,AT,Lib.bytesWorld_cell w e s j g];have d:j<s.data.toList.length:=by simpa using g
 rw[BA,AC d] at f;rw[<-f,AG,AC d];rfl
theorem q6j (w:WD)(e:TypeId)(s:ByteArray):Below w.1.size w (Lib.bytesWorld w e s):=
 ⟨rfl,rfl,rfl,by rw[Lib.bytesWorld_size];omega,λk d=>Lib.bytesWorld_at_old w e s k d⟩
theorem G6 (w:WD):Sl w none 0 0 []:=⟨rfl,AE _,AW _,λj u d=>by simp at d⟩
section
variable {P:Program}{t e:TypeId}(w:WD)
end
def txt (ss:List ByteArray)(k:Nat):ByteArray:=ss.getD k ByteArray.empty
def Aa (w:WD)(A:OA)(n c:Nat)(ss:List ByteArray):Prop:=
 Holds w w.1.size A n c (ss.map Value.string)/\∀s∈ss,s.size<=maxLen
section
variable {w w':WD}{n c:Nat}{A:OA}{ss:List ByteArray}
theorem Aa.len (h:Aa w A n c ss):ss.length=n:=by simpa using h.1.1
theorem Aa.cap (h:Aa w A n c ss):n<=c:=h.1.2.1
theorem Aa.max (h:Aa w A n c ss):c<=maxLen:=h.1.2.2.1
theorem Aa.cell (h:Aa w A n c ss){k:Nat}(hk:k<n):∃d,A=some d/\d.block<w.1.size/\w.cell? (d.add k)=some (.string (txt ss k))/\(txt ss k).size<=maxLen:=by
 have f:k<ss.length:=by have:=h.len;omega
 have e:txt ss k=ss[k]:=by unfold txt;rw[AG,AC f];rfl
 obtain⟨d,g,m,p⟩:=h.1.2.2.2 k (.string ss[k]) (by simp[f]);exact⟨d,g,m,by rw[e];exact p,by rw[e];exact h.2 _ (List.getElem_mem f)⟩
end
section
open Go.ChangeShapes Go.WideShapes Go.ChangeAt
section
variable {H:Type}{enc:TypeId × Value->H}{P:Program}
theorem q6k (F:laidOutB P=true){W E:WD}{G:Nat->Bool}:∀(m:List TypeId) (vs:LV) (u:List (DataW H)) (g:List MemPlace),
  (∀t∈m,P.readableRec t=true/\t<P.types.size)->DataW.TrodAll enc P W 0 (λ_=>true) true m vs u g->(∀p∈g,W.sameAt E p)->(∀p∈g,G p.block=true)->DataW.TrodAll enc P E 0 G true m vs u g
 |[],vs,u,g,_,h,_,_=>by
  obtain⟨rfl,rfl,rfl⟩:=trodAll_nil h;exact trodAll_mk0
 |t::m,vs,u,g,hr,h,hs,hsp=>by
  obtain⟨v,D,d,y,p,q,rfl,rfl,rfl,h1,h2⟩:=trodAll_cons h;have ⟨J,K⟩:=hr t (AP ..);refine⟨p,q,WideElems.Trod_stays F J K h1 (λx f=>hs x (List.mem_append_left _ f)) (λx f=>hsp x (List.mem_append_left _ f)),?_,rfl⟩;exact q6k F m D y q (λt I=>hr t (AO _ I)) h2 (λx f=>hs x (AU _ f)) (λx f=>hsp x (AU _ f))
theorem qsi {f:Func}{s:ChangeSpec}{tb:TypeId}{W I:WD}{g:Array Value}{F O:List (DataW H)}{d:List MemPlace}
  (G:f.resultTypes=#[tb]) (D:P.underlying tb=some .bool) (m:s.vars=[]) (U:laidOutB P=true) (Y:∀t∈f.params.toList,P.readableRec t=true/\t<P.types.size)
  (J:DataW.Whole enc P f.params.toList s.vars false W g.toList F O d) (u:s.fn H (F++O)={ results:=[.lit (.bool true)],args:=F }) (R:Below W.1.size W I) :
  s.post enc P f false true false false W g (.bool true) I:=by
 have E:∀p∈d,p.block<W.1.size:=λp X=>J.lt p X
 have K:=J;obtain⟨p,q,T,Q,rfl,Z,hn⟩:=J;rw[m] at Q;obtain⟨rfl,rfl⟩:=trodVars_none Q;rw[BM] at E u;have y:DataW.TrodAll enc P I 0 (λb=>decide (b<W.1.size)) true f.params.toList g.toList F p:=
  q6k U _ _ _ _ Y T (λx M=>R.same (E x M)) (λx M=>by simpa using E x M)
 refine⟨F,[],p++[],[],p,[],K,?_,?_,?_,?_,λh=>by cases h⟩
 ·rw[BM,u,G];exact trodAll_mk1 (shut_bool D true)
 ·rw[BM,u];exact y
 ·rw[BM,u,m];rfl
 ·exact R.frame _
end
theorem qll {H:Type}{enc:TypeId × Value->H}{P:Program}{W:WD}{t e:TypeId}{v:Value}{d:DataW H}{U:List MemPlace}(T:Vx P t e)(I:P.underlying e=some (.int .u8))
  (O:∃a len cap,v=.slice a len cap) (h:DataW.Trod enc P W 0 (λ_=>true) true t v d U):∃A n c l,v=.slice A n c/\Sl W A n c l:=by
 obtain⟨fuel,J⟩:=h;obtain⟨X,m,F,rfl⟩:=O;have y:P.cellsOf e=1:=by
  obtain⟨i,hi,_,D,_⟩:=info_parts T.info;simp[Program.cellsOf,hi,D]
 rcases open_ints T.sl I y J with⟨f,_⟩|⟨a,len,cap,E,f,_,M,hm,R,_,p,Q⟩
 ·simp[Value.cells] at f;obtain⟨rfl,rfl,rfl⟩:=f;exact⟨_,_,_,[],rfl,G6 W⟩
 ·simp[Value.cells] at f;obtain⟨rfl,rfl,rfl⟩:=f;rw[AA rfl] at R;refine⟨_,_,_,(E.take m).map (λz=>UInt8.ofNat z.toNat),rfl,?_,M,hm,λj u G=>?_⟩
  ·simp;omega
  ·have K:j<m:=by have:=(List.getElem?_eq_some_iff.1 G).1;simp at this;omega
   have g:j<E.length:=by omega
   have y:=p j g;refine⟨a,rfl,?_,?_⟩
   ·have:=World.block_lt_of_cell? W (a.add j) y;rwa [Oa] at this
   ·rw[y,<-G];rw[List.map_map,BA,List.getElem?_take_of_lt K,AC g];have Y:=bounds_u8 (Q E[j] (List.getElem_mem g));simp only[Option.map_some,Function.comp,bv,AG,AC g,Option.getD_some];congr 2
    rw[UInt8.toNat_ofNat'];omega
end
section
open Go.ChangeMaps (setBlock)
def kI (e:MapEntry):Int:=match e.key with|.int _ z=>z|_=>0
def Zf (s:Int):List MapEntry->Option Value
 |[]=>none
 |e::r=>if kI e=s then some e.val else Zf s r
def Zr (s:Int)(v:Value)(c:Nat):List MapEntry->List MapEntry
 |[]=>[{ key:=.int .i64 s,val:=v,born:=c }]
 |e::r=>if kI e=s then { e with key:=.int .i64 s,val:=v }::r else e::Zr s v c r
def Xt (s:Int):List MapEntry->List MapEntry
 |[]=>[]
 |e::r=>if kI e=s then r else e::Xt s r
structure U0 (l:List MapEntry)(clock:Nat):Prop where
 key:∀e∈l,e.key=.int .i64 (kI e)
 one:(l.map kI).Nodup
 born:(l.map (·.born)).Nodup
 clock:∀e∈l,e.born<clock
theorem Qb3 (s:Int)(v:Value)(c:Nat):kI { key:=.int .i64 s,val:=v,born:=c }=s:=rfl
theorem qjg {s:Int}{v:Value}:∀{l:List MapEntry},Zf s l=some v->∃e∈l,kI e=s/\e.val=v
 |[],h=>by cases h
 |e::r,h=>by
  unfold Zf at h;split at h
  ·exact⟨e,by simp,by assumption,by simpa using h⟩
  ·obtain⟨x,d,h2⟩:=qjg h;exact⟨x,by simp[d],h2⟩
theorem qfa {s:Int}:∀{l:List MapEntry},Zf s l=none->∀e∈l,kI e≠s
 |[],_,e,he=>by cases he
 |x::r,h,e,he=>by
  unfold Zf at h;split at h
  ·cases h
  ·rcases List.mem_cons.1 he with rfl|h2
   ·assumption
   ·exact qfa h e h2
theorem q62 {l:List MapEntry}(hn:(l.map kI).Nodup){e:MapEntry}(d:e∈l):Zf (kI e) l=some e.val:=by
 induction l with
 |nil=>cases d
 |cons x r ih=>
  unfold Zf;rw[BJ,List.nodup_cons] at hn;rcases List.mem_cons.1 d with rfl|h2
  ·simp
  ·rw[AB (λh=>hn.1 (by rw[h];exact List.mem_map.2 ⟨e,h2,rfl⟩))];exact ih hn.2 h2
theorem qdu (s:Int)(v:Value)(c:Nat)(z:Int):∀l:List MapEntry,Zf z (Zr s v c l)=if z=s then some v else Zf z l
 |[]=>by
  unfold Zr Zf;rw[Qb3];by_cases h:s=z
  ·simp[h]
  ·have:¬z=s:=λe=>h e.symm
   simp[h,this,Zf]
 |e::r=>by
  unfold Zr;by_cases h:kI e=s
  ·rw[AA h];by_cases d:s=z
   ·subst d;simp[Zf,kI]
   ·have f:¬z=s:=λe=>d e.symm
    have g:¬kI e=z:=λe=>d (h.symm.trans e)
    have m:¬kI { e with key:=.int .i64 s,val:=v }=z:=d;unfold Zf;rw[AB m,AB f,AB g]
  ·rw[AB h];unfold Zf;rw[qdu s v c z r];by_cases d:kI e=z
   ·have:¬z=s:=λp=>h (d.trans p)
    simp[d,this]
   ·simp[d]
theorem q91 {s:Int}(z:Int):∀{l:List MapEntry},(l.map kI).Nodup->Zf z (Xt s l)=if z=s then none else Zf z l
 |[],_=>by simp[Xt,Zf]
 |e::r,hn=>by
  rw[BJ,List.nodup_cons] at hn;unfold Xt;by_cases h:kI e=s
  ·rw[AA h];by_cases d:z=s
   ·rw[AA d,d]
    cases g:Zf s r with
    |none=>rfl
    |some v=>
     obtain⟨x,p,h2,_⟩:=qjg g;exact absurd (List.mem_map.2 ⟨x,p,h2.trans h.symm⟩) hn.1
   ·rw[AB d];have m:Zf z (e::r)=Zf z r:=by
     show (if kI e=z then some e.val else Zf z r)=_;rw[AB (λf=>d (f.symm.trans h))]
    exact m.symm
  ·rw[AB h];unfold Zf;rw[q91 z hn.2];by_cases d:kI e=z
   ·have:¬z=s:=λf=>h (d.trans f)
    simp[d,this]
   ·simp[d]
theorem q9x {s:Int}{v:Value}{c:Nat}:∀{l:List MapEntry} {e:MapEntry},e∈Zr s v c l->e∈l\/(e.key=.int .i64 s/\(e.born=c\/∃x∈l,x.born=e.born))
 |[],e,h=>by
  simp[Zr] at h;subst h;exact .inr ⟨rfl,.inl rfl⟩
 |x::r,e,h=>by
  unfold Zr at h;split at h
  ·rcases List.mem_cons.1 h with rfl|h2
   ·exact .inr ⟨rfl,.inr ⟨x,by simp,rfl⟩⟩
   ·exact .inl (by simp[h2])
  ·rcases List.mem_cons.1 h with rfl|h2
   ·exact .inl (by simp)
   ·rcases q9x h2 with d|⟨d,f⟩
    ·exact .inl (by simp[d])
    ·refine .inr ⟨d,f.imp id λ⟨y,m,g⟩=>⟨y,by simp[m],g⟩⟩
theorem q63 {s:Int}:∀{l:List MapEntry} {e:MapEntry},e∈Xt s l->e∈l
 |[],e,h=>by cases h
 |x::r,e,h=>by
  unfold Xt at h;split at h
  ·simp[h]
  ·rcases List.mem_cons.1 h with rfl|h2
   ·simp
   ·simp[q63 h2]
theorem qhg {s:Int}:∀(l:List MapEntry),List.Sublist (Xt s l) l
 |[]=>.slnil
 |x::r=>by
  unfold Xt;split
  ·exact List.sublist_cons_self ..
  ·exact (qhg r).cons_cons x
theorem qvi {s:Int}{v:Value}{c:Nat}:∀(l:List MapEntry),(Zr s v c l).map kI=if Zf s l=none then l.map kI++[s] else l.map kI
 |[]=>by simp[Zr,Zf,kI]
 |x::r=>by
  unfold Zr Zf;by_cases h:kI x=s
  ·rw[AA h,AA h,AB (by simp)];simp[kI] at h ⊢;exact h.symm
  ·rw[AB h,AB h,BJ,qvi r];split<;>simp
theorem qdv {s:Int}{v:Value}{c:Nat}:∀(l:List MapEntry),(Zr s v c l).map (·.born)=if Zf s l=none then l.map (·.born)++[c] else l.map (·.born)
 |[]=>by simp[Zr,Zf]
 |x::r=>by
  unfold Zr Zf;by_cases h:kI x=s
  ·rw[AA h,AA h,AB (by simp)];simp
  ·rw[AB h,AB h,BJ,qdv r];split<;>simp
theorem qc0 {s:Int}:∀(l:List MapEntry),(Xt s l).length=if Zf s l=none then l.length else l.length-1
 |[]=>by simp[Xt,Zf]
 |x::r=>by
  unfold Xt Zf;by_cases h:kI x=s
  ·simp[h]
  ·rw[AB h,AB h,AX,qc0 r];split
   ·simp
   ·rename_i d;have:0<r.length:=by
     rcases r with _|⟨a,b⟩
     ·exact absurd rfl d
     ·simp
    simp;omega
theorem qsj:U0 [] 0:=⟨by simp,by simp,by simp,by simp⟩
theorem U0.put {l:List MapEntry}{clock:Nat}(h:U0 l clock)(s:Int)(v:Value):U0 (Zr s v clock l) (if Zf s l=none then clock+1 else clock):=by
 have u:∀e∈Zr s v clock l,e.born<clock+1:=λe d=>by
  rcases q9x d with h2|⟨_,h2|⟨x,p,h2⟩⟩
  ·have:=h.clock e h2;omega
  ·omega
  ·have:=h.clock x p;omega
 refine⟨λe d=>?_,?_,?_,λe d=>?_⟩
 ·rcases q9x d with h2|⟨h2,_⟩
  ·exact h.key e h2
  ·unfold kI;rw[h2]
 ·rw[qvi];split
  ·rename_i g;rw[List.nodup_append];refine⟨h.one,by simp,λa m b f=>?_⟩;obtain rfl:b=s:=by simpa using f
   obtain⟨e,d,rfl⟩:=List.mem_map.1 m;exact qfa g e d
  ·exact h.one
 ·rw[qdv];split
  ·rw[List.nodup_append];refine⟨h.born,by simp,λa m b f=>?_⟩;obtain rfl:b=clock:=by simpa using f
   obtain⟨e,d,rfl⟩:=List.mem_map.1 m;have:=h.clock e d;show e.born≠b;omega
  ·exact h.born
 ·by_cases g:Zf s l=none
  ·rw[AA g];exact u e d
  ·rw[AB g];have f:e.born∈(Zr s v clock l).map (·.born):=List.mem_map.2 ⟨e,d,rfl⟩;rw[qdv,AB g] at f;obtain⟨x,p,h2⟩:=List.mem_map.1 f;have:=h.clock x p;rw[<-h2];exact this
theorem U0.del {l:List MapEntry}{clock:Nat}(h:U0 l clock)(s:Int):U0 (Xt s l) clock:=
 ⟨λe d=>h.key e (q63 d),h.one.sublist ((qhg l).map kI),h.born.sublist ((qhg l).map _),λe d=>h.clock e (q63 d)⟩
theorem q9y (s:Int):∀(l:List MapEntry) (i:Nat),(∀e∈l,e.key=.int .i64 (kI e))->
  (Instr.findNow (.int .i64) (.int .i64 s) l i=some none/\Zf s l=none/\(∀v c,Zr s v c l=l++[{ key:=.int .i64 s,val:=v,born:=c }])/\Xt s l=l)\/
  ∃j e,Instr.findNow (.int .i64) (.int .i64 s) l i=some (some (i+j,e.val))/\l[j]?=some e/\e.key=.int .i64 s/\Zf s l=some e.val/\
   (∀v c,Zr s v c l=l.modify j λe=>{ e with key:=.int .i64 s,val:=v })/\Xt s l=l.eraseIdx j
 |[],i,_=>.inl ⟨rfl,rfl,λ_ _=>rfl,rfl⟩
 |x::r,i,hk=>by
  have m:=hk x (by simp);by_cases h:kI x=s
  ·refine .inr ⟨0,x,?_,rfl,by rw[m,h],by simp[Zf,h],λv c=>by simp[Zr,h],by simp[Xt,h]⟩;rw[Instr.findNow,m,h];simp[Instr.sameNow]
  ·have p:Instr.findNow (.int .i64) (.int .i64 s) (x::r) i=Instr.findNow (.int .i64) (.int .i64 s) r (i+1):=by
    have g:(s==kI x)=false:=by rw[beq_eq_false_iff_ne];exact λe=>h e.symm
    rw[Instr.findNow,m];simp[Instr.sameNow,g]
   rcases q9y s r (i+1) (λe D=>hk e (by simp[D])) with⟨h1,h2,d,f⟩|⟨j,e,h1,h2,d,f,u,y⟩
   ·exact .inl ⟨p.trans h1,by simp[Zf,h,h2],λv c=>by simp[Zr,h,d],by simp[Xt,h,f]⟩
   ·refine .inr ⟨j+1,e,by rw[p,h1];congr 3;omega,by simpa using h2,d,by simp[Zf,h,f],λv c=>by simp[Zr,h,u],by simp[Xt,h,y]⟩
section
variable {P:Program}{w:WD}{t k e b clock:Nat}{l:List MapEntry}
theorem q9z (E:U0 l clock)(p:P.underlying t=some (.map k e))(f:P.underlying k=some (.int .i64)){z:Value}(D:(zeroValue e).run P w=.ok z w)(g:w.1[b]?=some (.map l.toArray clock))(s:Int) :
  (Instr.lookup t (.map (some b)) (.int .i64 s) false).run P w=.ok ((Zf s l).getD z) w:=by
 have m:=λu=>MapKept.run_checkKey (P:=P) (w:=w) f (k:=.int .i64 s) rfl u 9999
 rcases q9y s l 0 E.key with⟨h1,h2,_⟩|⟨j,x,h1,_,_,y,_⟩
 ·have d:=MapKept.run_findKey (P:=P) (w:=w) f h1;simp[Instr.lookup,run_underlying p,MapKept.run_getObj_map g,m,d,D,h2]
 ·have d:=MapKept.run_findKey (P:=P) (w:=w) f h1;simp[Instr.lookup,run_underlying p,MapKept.run_getObj_map g,m,d,y]
theorem q1t (E:U0 l clock)(y:P.underlying t=some (.map k e))(m:P.underlying k=some (.int .i64))(d:w.1[b]?=some (.map l.toArray clock))(s:Int)(v:Value) :
  (Instr.mapUpdate t (.map (some b)) (.int .i64 s) v).run P w=.ok () (setBlock w b (.map (Zr s v clock l).toArray (if Zf s l=none then clock+1 else clock))):=by
 have u:=λD=>MapKept.run_checkKey (P:=P) (w:=w) m (k:=.int .i64 s) rfl D 9999
 rcases q9y s l 0 E.key with⟨h1,h2,g,_⟩|⟨j,x,h1,I,g,F,G,_⟩
 ·have f:=MapKept.run_findKey (P:=P) (w:=w) m h1;simp[Instr.mapUpdate,run_underlying y,MapKept.run_getObj_map d,u,f,h2,g,MapKept.run_setObj_map _ d,setBlock]
 ·have f:=MapKept.run_findKey (P:=P) (w:=w) m h1;rw[AT] at f;have p:(Instr.keyThatStays (.int .i64 s) (.int .i64 s)).run P w=.ok (.int .i64 s) w:=by
   simp[Instr.keyThatStays,Instr.sameBits]
  simp[Instr.mapUpdate,run_underlying y,MapKept.run_getObj_map d,u,f,F,G,I,g,p,MapKept.run_setObj_map _ d,setBlock]
theorem q4k (E:U0 l clock)(p:P.underlying t=some (.map k e))(g:P.underlying k=some (.int .i64))(d:w.1[b]?=some (.map l.toArray clock))(s:Int)(u ty:TypeId) :
  (Builtin.delete_ #[t,u] ty #[.map (some b),.int .i64 s]).run P w=.ok (.tuple #[]) (setBlock w b (.map (Xt s l).toArray clock)):=by
 have m:=λy=>MapKept.run_checkKey (P:=P) (w:=w) g (k:=.int .i64 s) rfl y 9999
 rcases q9y s l 0 E.key with⟨h1,h2,_,D⟩|⟨j,x,h1,I,G,_,_,F⟩
 ·have f:=MapKept.run_findKey (P:=P) (w:=w) g h1;simp[Builtin.delete_,run_underlying p,MapKept.run_getObj_map d,m,f,D,MapKept.run_setObj_map _ d,setBlock]
 ·have f:=MapKept.run_findKey (P:=P) (w:=w) g h1;rw[AT] at f;simp[Builtin.delete_,run_underlying p,MapKept.run_getObj_map d,m,f,F,MapKept.run_setObj_map _ d,setBlock]
end
end
theorem Cb:Vx prog 22 5:=⟨underlying22,by kernel_rfl⟩
def Tab (w:WD):Prop:=1<w.1.size/\∀k:Nat,k<16->w.cell? ⟨1,k,none⟩=some (.int .u32 (Ez k:Nat))
theorem Tab.below {w w':WD}{B:Nat}(h:Tab w)(hb:Below B w w')(hB:1<B):Tab w':=
 ⟨by have:=hb.size;have:=h.1;omega,λk d=>(hb.cell (p:=⟨1,k,none⟩) hB).trans (h.2 k d)⟩
theorem qc1 (r:Nat)(u:r<4294967296)(w:WD)(h:Tab w) :
  Calls prog 155 #[.int .u32 (r:Nat)] w λe w'=>e=.returned (.int .u32 (Ez r:Nat))/\w=w':=by
 obtain⟨m,hm⟩:∃m,m=r % 16:=⟨_,rfl⟩;have d:m<16:=by omega
 have f:=h.2 m d;have g:bits .and .u32 (r:Int) 15=(m:Int):=by
  rw[show (15:Int)=((15:Nat):Int) from rfl,u32_and_nat r 15 u (by omega),nat_mask4,hm]
 have p:=HI hm;clear hm;go_enter func155,ntmps155
 go_wp2;go_ret;have y:bits .xor .u32 ((r:Int) / 16) (Ez m:Nat)=(Ez r:Nat):=by
  rw[show (r:Int) / 16=((r / 16:Nat):Int) by omega,u32_xor_nat _ _ (by omega) (qj9 (by omega)),p.out,<-qsc r]
 exact⟨q9u y,rfl⟩
theorem qsk (r:Nat)(l:LU)(k:Nat)(h:k<l.length):Yf r (l.take (k+1))=Ez (Ez (Yf r (l.take k) ^^^ Xr l k)):=by
 rw[q9v l k h,qhf];have:=q8h l k;unfold by8 st8;rw[show (UInt8.ofNat (Xr l k)).toNat=Xr l k by simp;omega]
theorem qsl (s:Nat)(R:s<4294967296)(A:OA)(n c:Nat)(l:LU)(w:WD)(g:Sl w A n c l)(T:Tab w) :
  Calls prog 129 #[.int .u32 (s:Nat),.slice A n c] w λe w'=>e=.returned (.int .u32 (more s l:Nat))/\w=w':=by
 have hm:=g.max;have hc:=g.cap;unfold maxLen at hm;have O:=HI g.len;obtain⟨q,J⟩:∃q,q=4294967295-s:=⟨_,rfl⟩;have Q:bits .xor .u32 IntKind.u32.max (s:Int)=(q:Int):=by
  rw[show IntKind.u32.max=((4294967295:Nat):Int) from rfl,u32_xor_nat _ s (by omega) R,Nat.xor_comm,qjb R,J]
 have u:q<4294967296:=by omega
 have U:=HI J;clear J;go_enter func129,ntmps129
 go_wp2;go_loop [5,12] (λr i=>∃k:Nat,k<=n/\i=.int .i64 k/\r=.int .u32 (Yf q (l.take k):Nat)) (λ_ i=>n-(intOf i).toNat)
 case atStart=>exact⟨0,AW _,rfl,rfl⟩
 case round=>
  obtain⟨k,hk,rfl,rfl⟩:=hrel;have D:=qnt (l.take k) u;by_cases p:k<n
  ·obtain⟨Z,rfl,hb,I⟩:=g.cell p;have Y:=q8h l k;have G:=HI (qsk q l k (by rw[O.out];exact p));generalize Yf q (l.take k)=x at D G;have E:bits .xor .u32 (x:Int) (Xr l k:Int)=((x ^^^ Xr l k:Nat):Int):=u32_xor_nat _ _ D (by omega);have K:x ^^^ Xr l k<4294967296:=qns D (by omega);generalize x ^^^ Xr l k=y at E K G;have F:=qj9 K;go_wp2_with fail
   refine (qc1 y K w T).mono ?_;rintro e w' ⟨rfl,rfl⟩;obtain⟨M,f⟩:∃M,M=Ez y:=⟨_,rfl⟩;rw[<-f] at F G ⊢;have X:=HI f;clear f;go_wp2_with fail
   refine (qc1 M F w T).mono ?_;rintro e w' ⟨rfl,rfl⟩;go_wp2;exact⟨⟨k+1,by omega,by go_num,by rw[G.out]⟩,by simp[intOf];omega⟩
  ·obtain rfl:k=n:=by omega
   have W:=HI (show l.take k=l from AN (by rw[O.out];omega));have d:bits .xor .u32 IntKind.u32.max (Yf q (l.take k):Int)=((4294967295-Yf q (l.take k):Nat):Int):=by
    rw[show IntKind.u32.max=((4294967295:Nat):Int) from rfl,u32_xor_nat _ _ (by omega) D,Nat.xor_comm,qjb D]
   have m:=HI d;clear d;go_wp2;go_ret;exact⟨q9u (by rw[m.out,W.out,U.out];rfl),rfl⟩
theorem qw8 (A:OA)(n c:Nat)(l:LU)(w:WD)(h:Sl w A n c l)(d:Tab w) :
  Calls prog 94 #[.slice A n c] w λe w'=>e=.returned (.int .u32 (more 0 l:Nat))/\w=w':=by
 go_enter func94,ntmps94
 go_wp2_with (go_at_call 129;refine (qsl 0 (by omega) A n c l w h d).mono ?_;rintro e w' ⟨rfl,rfl⟩)
 go_ret;exact⟨rfl,rfl⟩
section
open Go.ChangeShapes Go.WideShapes Go.ChangeAt
theorem qfb {H:Type}{enc:TypeId × Value->H}{P:Program}{W:WD}{base:Nat}{O:Nat->Bool}{held:Bool}{fuel:Nat}{t e:TypeId}{n:Nat}{k:IntKind}{f:LV}{zs:LI}{p:List MemPlace}
  (K:P.underlying t=some (.array n e)) (J:P.underlying e=some (.int k)) (I:P.cellsOf e=1) (h:DataW.trod enc P W base O held fuel t f=some (.agg (zs.map λz=>.lit (.int k z)),p)) (i:Nat) (hi:i<n):f[i]?=some (.int k (zs.getD i 0)):=by
 obtain⟨xs,m,rfl,D,_,hn,g⟩:=DataW.trod_array K h;have h1:=g i hi;rw[I,Nat.mul_one] at h1;have d:i<xs.length:=by omega
 rw[AC d] at h1;obtain⟨z,E,F,_⟩:=DataW.trod_int J h1;simp only[Prod.mk.injEq,DataW.agg.injEq] at D;have h2:=congrArg (λl=>l[i]?) D.1;simp only[BA] at h2;rw[AC d,F] at h2;have M:zs[i]?=some z:=by
  cases u:zs[i]? with
  |none=>rw[u] at h2;cases h2
  |some y=>rw[u] at h2;simp only[Option.map_some,Option.some.injEq] at h2;cases h2;rfl
 have G:f[i]?=some (.int k z):=by
  have:=congrArg (λl=>l[0]?) E;simpa [List.getElem?_take,List.getElem?_drop] using this
 rw[G,AG,M];rfl
end
section
open Go.ChangeShapes Go.WideShapes Go.ChangeAt
theorem Ox:ownKnob prog.godebug=none:=by kernel_rfl
theorem Qb7:laidOutB prog=true:=by kernel_rfl
abbrev LAID:List (String × DataW Unit):=[("cambium/sum.shifted",Rows.laid_cambium_sum_shifted),("unicode/utf8.acceptRanges",Rows.laid_unicode_utf8_acceptRanges),("unicode/utf8.first",Rows.laid_unicode_utf8_first)]
theorem qsm (os:Os)(d:Array Value):laidMetH prog LAID ((World.laidAll prog os LAID).forCall (λ_ _=>0) ⟨#[],d,[]⟩).memory:=by
 rw[MakeChecks.laidMetH_plain _ _ _ (by kernel_rfl)];exact laidMet_laidAll _ (by kernel_rfl) (by kernel_rfl)
theorem qlm {P:Program}{W:WD}{name:String}{g:Nat}{t e:TypeId}{n:Nat}{k:IntKind}{zs:LI}{d:List (String × DataW Unit)}(D:P.globalNamed name=some g)(p:(P.globals[g]?).map (·.type)=some t)
  (I:P.underlying t=some (.array n e)) (G:P.underlying e=some (.int k)) (F:P.cellsOf e=1) (h:laidMet P ((name,.agg (zs.map λz=>.lit (.int k z)))::d) W) (i:Nat) (hi:i<n):W.cell? ⟨g,i,none⟩=some (.int k (zs.getD i 0)):=by
 obtain⟨O,⟨K,R,E,J,M,Q,m,u,y,f,_,_⟩,_,_⟩:=h;obtain rfl:=OI (D.symm.trans m);obtain rfl:=OI (p.symm.trans u);rw[World.var?_cell D y i];have:=qfb I G F f i hi;simpa using this
theorem qsn {W:WD}(h:laidMetH prog LAID W):Tab W:=by
 rw[MakeChecks.laidMetH_plain _ _ _ (by kernel_rfl)] at h;have f:∀k:Nat,k<16->W.cell? ⟨1,k,none⟩=some (.int .u32 (([0,274646895,549293790,820201905,1098587580,1361435347,1640403810,1905808397,2197175160,2460548119,2722870694,2987750089,3280807620,3553878443,3811616794,4084100981]:LI).getD k 0)):=λk d=>
  qlm (zs:=[0,274646895,549293790,820201905,1098587580,1361435347,1640403810,1905808397,2197175160,2460548119,2722870694,2987750089,3280807620,3553878443,3811616794,4084100981]) (g:=1) (by kernel_rfl) (by kernel_rfl) underlying256 underlying170 (by kernel_rfl) h k d
 have m:∀k:Nat,k<16->([0,274646895,549293790,820201905,1098587580,1361435347,1640403810,1905808397,2197175160,2460548119,2722870694,2987750089,3280807620,3553878443,3811616794,4084100981]:LI).getD k 0=(Ez k:Nat):=by decide +kernel
 exact⟨by have:=World.block_lt_of_cell? W _ (f 0 (by omega));exact this,λk d=>by rw[f k d,m k d]⟩
end
