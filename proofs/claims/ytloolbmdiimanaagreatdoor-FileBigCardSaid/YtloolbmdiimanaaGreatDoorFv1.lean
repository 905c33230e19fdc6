/- Words for slices whose cells are read, over the kit's library; nothing here speaks of one  -/
import Derived.Test.YtloolbmdiimanaaGreatDoorCrc
import Derived.WalkKit
import Derived.Deep.Draws
import Derived.Deep.AppendLies
import Derived.Maps.AppendAt
import Derived.Lib.ConvBytes
import Derived.ProofKit
import Derived.OpenShut
import Derived.Carry
import Derived.ChangeSame
import Derived.SizedLaws
import Derived.SliceStrings
import Derived.ChangeMaps5
import Derived.Test.YtloolbmdiimanaaGreatDoorRows
import Derived.Laws.BitsAll
import Derived.LaidMore
import Derived.LaidHandle
import Derived.MakeChecks
import Derived.Deep.Matrix
import Derived.Stop.Joined
import Derived.Lay
import Derived.LaidOnce
namespace Go.Proofs.YtloolbmdiimanaaGreatDoor
open Go Go.RowKit Go.Proofs Tryz
set_option maxHeartbeats 400000
theorem Ql {w:WD}{o:Obj}:Below w.1.size w (w.alloc o):=(AI _ _).alloc (AE _) _
theorem q9i {k:IntKind}{a b:Int}(h:a=b):Ending.returned (.int k a)=.returned (.int k b):=by rw[h]
def bv (b:UInt8):Value:=.int .u8 (b.toNat:Int)
def Yb (l:LU)(k:Nat):Nat:=(l.getD k 0).toNat
theorem q8c (l:LU)(k:Nat):Yb l k<=255:=by have:=(l.getD k 0).toNat_lt;unfold Yb;omega
theorem q9j (l:LU)(k:Nat)(h:k<l.length):l.take (k+1)=l.take k++[UInt8.ofNat (Yb l k)]:=by
 rw[List.take_succ_eq_append_getElem h];simp[Yb,List.getD,h]
theorem Ov (a:Addr)(n:Nat):(a.add n).block=a.block:=by unfold Addr.add;split<;>rfl
theorem qj3 (a:Addr)(i j:Nat):(a.add i).add j=a.add (i+j):=by
 unfold Addr.add;by_cases hi:i=0<;>by_cases d:j=0<;>simp[hi,d,Nat.add_assoc]
def Holds (w:WD)(B:Nat)(A:OA)(n c:Nat)(xs:LV):Prop:=
 xs.length=n/\n<=c/\c<=maxLen/\∀(j:Nat) u,xs[j]?=some u->∃d,A=some d/\d.block<B/\w.cell? (d.add j)=some u
def Sl (w:WD)(A:OA)(n c:Nat)(l:LU):Prop:=Holds w w.1.size A n c (l.map bv)
section
variable {w w':WD}{B B' n c:Nat}{A:OA}{xs:LV}
theorem Holds.len (h:Holds w B A n c xs):xs.length=n:=h.1
theorem Holds.keep (h:Holds w B A n c xs)(hk:∀p:Addr,p.block<B->w'.cell? p=w.cell? p):Holds w' B A n c xs:=
 ⟨h.1,h.2.1,h.2.2.1,λj u m=>by
  obtain⟨f,e,d,g⟩:=h.2.2.2 j u m;exact⟨f,e,d,(hk _ (by rw[Ov];exact d)).trans g⟩⟩
theorem Holds.more (h:Holds w B A n c xs)(hB:B<=B'):Holds w B' A n c xs:=
 ⟨h.1,h.2.1,h.2.2.1,λj u g=>by
  obtain⟨d,e,m,f⟩:=h.2.2.2 j u g;exact⟨d,e,by omega,f⟩⟩
theorem Holds.below (h:Holds w B A n c xs)(hb:Below B w w'):Holds w' B A n c xs:=h.keep λ_ d=>hb.cell d
end
section
variable {w w':WD}{n c:Nat}{A:OA}{l:LU}
theorem Sl.len (h:Sl w A n c l):l.length=n:=by simpa using h.1
theorem Sl.cap (h:Sl w A n c l):n<=c:=h.2.1
theorem Sl.max (h:Sl w A n c l):c<=maxLen:=h.2.2.1
theorem Sl.below (h:Sl w A n c l)(hb:Below w.1.size w w'):Sl w' A n c l:=(Holds.below h hb).more hb.size
theorem Sl.drew (h:Sl w A n c l):Sl w.drew A n c l:=h
theorem Sl.cell (h:Sl w A n c l){k:Nat}(hk:k<n):∃d,A=some d/\d.block<w.1.size/\w.cell? (d.add k)=some (.int .u8 (Yb l k:Int)):=by
 have f:k<l.length:=by have:=h.len;omega
 obtain⟨d,e,g,m⟩:=h.2.2.2 k (bv l[k]) (by simp[f]);exact⟨d,e,g,by rw[m];unfold Yb bv;rw[AG,AC f];rfl⟩
theorem Sl.take (h:Sl w A n c l){k:Nat}(hk:k<=n):Sl w A k c (l.take k):=by
 refine⟨by have:=h.len;simp;omega,by have:=h.cap;omega,h.max,λj u d=>h.2.2.2 j u ?_⟩;rw[List.map_take,List.getElem?_take] at d;split at d
 ·exact d
 ·cases d
theorem Sl.drop (h:Sl w A n c l){k:Nat}(hk:k<=n):Sl w (if c=k then A else A.map (·.add k)) (n-k) (c-k) (l.drop k):=by
 refine⟨by have:=h.len;simp;omega,by have:=h.cap;omega,by have:=h.max;omega,λj u d=>?_⟩;rw[List.map_drop,List.getElem?_drop] at d;obtain⟨f,rfl,g,m⟩:=h.2.2.2 _ u d;have p:k+j<n:=by
  have:=h.1;have h2:=(List.getElem?_eq_some_iff.1 d).1;omega
 rw[AB (by have:=h.cap;omega)];exact⟨f.add k,rfl,by rw[Ov];exact g,by rw[qj3];exact m⟩
end
structure Uh (P:Program)(t e:TypeId):Prop where
 sl:P.underlying t=some (.slice e)
 info:(P.info? e).map (λi=>(i.zero,i.size,i.bytes))=some (some (.int .u8 0),1,1)
def Own (w:WD)(base:Nat)(e:TypeId)(A:OA)(n c:Nat)(l:LU):Prop:=w.ownsRow base e 1 (.slice A n c) n (l.map bv)
theorem qev (l:LU):∀u∈l.map bv,u.oneCell'=true:=by
 intro u d;obtain⟨_,_,rfl⟩:=List.mem_map.1 d;rfl
section
variable {w w':WD}{base n c:Nat}{e:TypeId}{A:OA}{l:LU}
theorem Own.len (h:Own w base e A n c l):l.length=n:=by have:=h.1;simpa using this
theorem Own.sl (h:Own w base e A n c l):Sl w A n c l:=by
 refine⟨by have:=h.len;simpa using this,?_,?_,λj u p=>?_⟩
 ·rcases h.2 with⟨d,rfl⟩|⟨g,cap,f,d,_,_,h1,h2,_⟩
  ·omega
  ·injection d with _ _ m;omega
 ·rcases h.2 with⟨d,rfl⟩|⟨g,cap,f,d,_,_,h1,h2,_⟩
  ·injection d with _ _ m;unfold maxLen;omega
  ·injection d with _ _ m;omega
 ·rcases h.2 with⟨d,rfl⟩|⟨g,cap,f,d,F,D,h1,h2,m,E⟩
  ·have:=h.len;have h0:=(List.getElem?_eq_some_iff.1 p).1;simp at h0;omega
  ·have y:A=some ⟨g,0,none⟩:=by injection d
   subst y;exact⟨_,rfl,(Array.getElem?_eq_some_iff.1 D).1,h.cells (g:=g) rfl j u p⟩
theorem Own.block (h:Own w base e A n c l):∀d,A=some d->base<=d.block/\d.block<w.1.size:=by
 intro d f;subst f;exact h.lt d.block rfl
theorem Own.at_ {g:Nat}(h:Own w base e (some ⟨g,0,none⟩) n c l)(j:Nat)(hj:j<n):w.cell? ⟨g,j,none⟩=some (.int .u8 (Yb l j:Int))/\w.frozen? ⟨g,j,none⟩=false:=by
 have d:=h.len;refine⟨?_,World.ownsRow.frozenAt h j⟩;rw[World.ownsRow.cellAt h j (by omega),BA,AC (by omega)];unfold Yb;rw[AG,AC (by omega)];rfl
theorem Own.G7 {g:Nat}(h:Own w base e (some ⟨g,0,none⟩) n c l)(j:Nat)(b:UInt8):Own (w.setCell ⟨g,j,none⟩ (bv b)) base e (some ⟨g,0,none⟩) n c (l.set j b):=by
 unfold Own;rw[List.map_set];exact (World.ownsRow.stored h j (bv b)).1
theorem Own.less {b:Nat}(h:Own w base e A n c l)(hb:b<=base):Own w b e A n c l:=by
 refine⟨h.1,?_⟩;rcases h.2 with f|⟨g,cap,d,f,h1,r⟩
 ·exact .inl f
 ·exact .inr ⟨g,cap,d,f,AZ hb h1,r⟩
theorem Own.drew (h:Own w base e A n c l):Own w.drew base e A n c l:=h
theorem Own.below (h:Own w base e A n c l)(hb:Below w.1.size w w'):Own w' base e A n c l:=by
 refine⟨h.1,?_⟩;rcases h.2 with f|⟨g,cap,d,f,h1,m,r⟩
 ·exact .inl f
 ·exact .inr ⟨g,cap,d,f,h1,(hb.block g (Array.getElem?_eq_some_iff.1 m).1).trans m,r⟩
end
section
variable {P:Program}{t e:TypeId}(w:WD)
theorem qni (n:Nat):(madeCells (Value.int .u8 0).cells (n*1)).toList=(List.replicate n (0:UInt8)).map bv:=by
 rw[show (Value.int .u8 0).cells=#[.int .u8 0] from rfl,Nat.mul_one,toList_madeCells_one];simp[bv]
theorem q9k (T:Uh P t e){f:Array Oper}{d:List Oper}{o:Oper}{a:Act}{Q:Exit->Act->WD->Prop}
  (F:o.guard=none) (l c:Operand) (g:o.op=Op.makeSlice t l c) (y kc:IntKind) (n:Nat) (G:a.eval l=.int y (n:Int)) (E:a.eval c=.int kc (n:Int)) (I:n<=281474976710656)
  (D:∀w',Own w' w.1.size e (some ⟨w.1.size,0,none⟩) n n (List.replicate n 0)->Below w.1.size w w'->wpList P f Q d (a.put o.dst (.slice (some ⟨w.1.size,0,none⟩) n n)) w') :
  wpList P f Q (o::d) a w:=by
 obtain⟨i,hi,m,p,u⟩:=info_parts T.info;refine wpList_make_full w F l c t g w.1.size e i _ 1 T.sl hi m p y kc _ _ n G E rfl rfl (by rw[u];omega) (by unfold maxLen;omega) (AE _) λw' h1 h2=>?_
 refine D w' ?_ ((AI _ _).grown h2 (AE _) (by simp));unfold Own;rw[<-qni];exact h1
theorem qew (T:Uh P t e){f:Array Oper}{d:List Oper}{o:Oper}{a:Act}{Q:Exit->Act->WD->Prop}
  (F:o.guard=none) (l c:Operand) (g:o.op=Op.makeSlice t l c) (y kc:IntKind) (n:Nat) (G:a.eval l=.int y 0) (E:a.eval c=.int kc (n:Int)) (I:n<=281474976710656)
  (D:∀w',Own w' w.1.size e (some ⟨w.1.size,0,none⟩) 0 n []->Below w.1.size w w'->wpList P f Q d (a.put o.dst (.slice (some ⟨w.1.size,0,none⟩) 0 n)) w') :
  wpList P f Q (o::d) a w:=by
 obtain⟨i,hi,m,p,u⟩:=info_parts T.info;refine wpList_make_own w F l c t g w.1.size e i _ 1 T.sl hi m p y kc _ n G E rfl (by rw[u];omega) (by unfold maxLen;omega) (AE _) λw' h1 h2=>?_
 exact D w' h1 ((AI _ _).grown h2 (AE _) (by simp))
theorem q6e (T:Uh P t e)(ty:TypeId)(base:Nat)(A:OA)(n c:Nat)(l:LU)(f:Own w base e A n c l)
  (B:OA) (m d:Nat) (D:LU) (J:Sl w B m d D) (a0:n+m<=140737488355328) (p:base<=w.1.size) :
  ∃E F w',(Builtin.append_ #[t,t] ty #[.slice A n c,.slice B m d]).run P w=.ok (.slice E (n+m) F) w'/\Own w' base e E (n+m) F (l++D)/\Below base w w'/\
   w.grownBy w' (Value.ownBlock (.slice A n c)):=by
 obtain⟨i,hi,R,U,W⟩:=info_parts T.info;have fin:∀I w',(Builtin.append_ #[t,t] ty #[.slice A n c,.slice B m d]).run P w=.ok I w'->w'.ownsRow base e 1 I (n+m) (l.map bv++D.map bv)->
   w.grownBy w' (Value.ownBlock (.slice A n c))->∃E F w',(Builtin.append_ #[t,t] ty #[.slice A n c,.slice B m d]).run P w=.ok (.slice E (n+m) F) w'/\Own w' base e E (n+m) F (l++D)/\Below base w w'/\
   w.grownBy w' (Value.ownBlock (.slice A n c)):=by
  intro I w' h1 h2 G;have X:Below base w w':=(AI _ _).grown G p (λk hk=>(f.lt k hk).1);rw[<-List.map_append] at h2;rcases h2.2 with⟨rfl,h0⟩|⟨g,cap,M,rfl,_⟩
  ·exact⟨none,0,w',by rw[h1,h0],by unfold Own;rw[h0] at h2 ⊢;exact h2,X,G⟩
  ·exact⟨_,_,w',h1,h2,X,G⟩
 rcases B with _|K
 ·have hm:m=0:=by
   rcases Nat.eq_zero_or_pos m with h0|h0
   ·exact h0
   ·obtain⟨K,h,_⟩:=J.cell h0
    cases h
  subst hm;have hn:D=[]:=BF J.len;subst hn;refine fin (.slice A n c) w ?_ (by rw[Nat.add_zero,List.map_nil,BM];exact f) (World.grownBy.refl w _);rcases f.2 with⟨Q,rfl⟩|⟨g,cap,M,Q,_,_,O,_⟩
  ·rw[Q];simp[Builtin.append_,run_underlying T.sl,sizeOf,typeInfo,hi,Builtin.lenOf,Builtin.firstCells]
  ·rw[Q];simp[Builtin.append_,run_underlying T.sl,sizeOf,typeInfo,hi,Builtin.lenOf,Builtin.firstCells,O,storeCells]
 ·have y:∀j u,(D.map bv)[j]?=some u->w.cell? (K.add j)=some u:=by
   intro j u hu;obtain⟨Y,h,_,Z⟩:=J.2.2.2 j u hu;injection h with h;subst h;exact Z
  obtain⟨I,w',h1,h2,G,_,_⟩:=run_append_own_at (P:=P) w base t ty e i _ 1 1 T.sl hi R U W rfl (by omega) _ n _ f K m d (D.map bv) (by have:=J.len;simpa using this) y (qev _) (by unfold maxLen;omega) (by omega) p;exact fin I w' h1 h2 G
theorem q5t (T:Uh P t e){y:Array Oper}{f:List Oper}{o:Oper}{a:Act}{Q:Exit->Act->WD->Prop}(F:o.guard=none)(s x:Operand)
  (O:o.op=.call { callee:=.builtin .append,args:=#[s,x],argTypes:=#[t,t] })
  (base:Nat) (A:OA) (n c:Nat) (l:LU) (U:a.eval s=.slice A n c) (p:Own w base e A n c l)
  (B:OA) (m d:Nat) (I:LU) (W:a.eval x=.slice B m d) (R:Sl w B m d I) (G:n+m<=140737488355328) (g:base<=w.1.size)
  (h:∀D E w',Own w' base e D (n+m) E (l++I)->Below base w w'->wpList P y Q f (a.put o.dst (.slice D (n+m) E)) w'):wpList P y Q (o::f) a w:=
 wpList_plain F λK M=>by
  obtain⟨D,E,w',u,h2,J,_⟩:=q6e (P:=P) w T o.type base A n c l p B m d I R G g;unfold Oper.wp execOp;simp only[O,resolve,invoke,builtin,Sem.run_bind,Sem.run_pure,Result.andThen_ok,List.map_toArray,BJ,List.map_nil,U,W,u];exact M _ _ (h D E w' h2 J)
end
def nth (ls:List (LU))(j:Nat):LU:=ls.getD j []
def Parts (w:WD)(A:OA)(k c:Nat)(ls:List (LU)):Prop:=
 ls.length=k/\k<=c/\c<=maxLen/\∀(j:Nat) l,ls[j]?=some l->∃f B n d,A=some f/\f.block<w.1.size/\w.cell? (f.add j)=some (.slice B n d)/\Sl w B n d l
section
variable {w w':WD}{k c:Nat}{A:OA}{ls:List (LU)}
theorem Parts.len (h:Parts w A k c ls):ls.length=k:=h.1
theorem Parts.below (h:Parts w A k c ls)(hb:Below w.1.size w w'):Parts w' A k c ls:=
 ⟨h.1,h.2.1,h.2.2.1,λj l p=>by
  obtain⟨g,B,n,d,e,f,m,u⟩:=h.2.2.2 j l p;exact⟨g,B,n,d,e,Nat.lt_of_lt_of_le f hb.size,(hb.cell (by rw[Ov];exact f)).trans m,u.below hb⟩⟩
theorem Parts.cell (h:Parts w A k c ls){j:Nat}(hj:j<k):∃f B n d,A=some f/\f.block<w.1.size/\w.cell? (f.add j)=some (.slice B n d)/\Sl w B n d (nth ls j):=by
 have m:j<ls.length:=by have:=h.1;omega
 have g:ls[j]?=some (nth ls j):=by simp[nth,List.getD,m]
 exact h.2.2.2 j _ g
end
def cat (ls:List (LU))(j:Nat):LU:=(ls.take j).flatten
def tot (ls:List (LU))(j:Nat):Nat:=(cat ls j).length
theorem qry (ls:List (LU)):cat ls 0=[]:=by simp[cat]
theorem qrz (ls:List (LU)):tot ls 0=0:=by simp[tot,cat]
theorem qj4 (ls:List (LU))(k:Nat)(h:k<ls.length):cat ls (k+1)=cat ls k++nth ls k:=by
 unfold cat nth;rw[List.take_succ_eq_append_getElem h,List.flatten_append];simp[List.getD,h]
theorem qj5 (ls:List (LU))(k:Nat)(h:k<ls.length):tot ls (k+1)=tot ls k+(nth ls k).length:=by
 unfold tot;rw[qj4 ls k h,AD]
theorem qv4 (ls:List (LU))(k m:Nat)(h:k<=m):tot ls k<=tot ls m:=by
 unfold tot cat;have e:(ls.take m).flatten=(ls.take k).flatten++((ls.take m).drop k).flatten:=by
  rw[<-List.flatten_append];congr 1
  have h2:=AV k (ls.take m);rw[List.take_take,Nat.min_eq_left h] at h2;exact h2.symm
 rw[e,AD];omega
theorem Sl.alloc {w:WD}{A:OA}{n c:Nat}{l:LU}(h:Sl w A n c l)(o:Obj):Sl (w.alloc o) A n c l:=h.below ((AI _ _).alloc (AE _) o)
theorem q5u (w:WD)(d:Array Value)(t:TypeId)(j:Nat):(w.alloc (.cells d t)).cell? ((⟨w.1.size,0,none⟩:Addr).add j)=d[j]?:=by
 rw[Addr.add_lit,AT];exact cell_of_row (w.alloc (.cells d t)) w.1.size j d t (0,0) (BE w _)
theorem Bh {w:WD}(t:TypeId){B:OA}{n d:Nat}{l:LU}(h:Sl w B n d l):Parts (w.alloc (.cells #[.slice B n d] t)) (some ⟨w.1.size,0,none⟩) 1 1 [l]:=by
 refine⟨rfl,AE _,by unfold maxLen;omega,λj g f=>?_⟩;rcases j with _|j
 ·obtain rfl:l=g:=by simpa using f
  exact⟨_,B,n,d,rfl,by simp,q5u w _ t 0,h.alloc _⟩
 ·simp at f
theorem Qbe {w:WD}(t:TypeId){B f:OA}{n d u g:Nat}{l p:LU}(h:Sl w B n d l)(h2:Sl w f u g p) :
  Parts (w.alloc (.cells #[.slice B n d,.slice f u g] t)) (some ⟨w.1.size,0,none⟩) 2 2 [l,p]:=by
 refine⟨rfl,AE _,by unfold maxLen;omega,λj y m=>?_⟩;rcases j with _|_|j
 ·obtain rfl:l=y:=by simpa using m
  exact⟨_,B,n,d,rfl,by simp,q5u w _ t 0,h.alloc _⟩
 ·obtain rfl:p=y:=by simpa using m
  exact⟨_,f,u,g,rfl,by simp,q5u w _ t 1,h2.alloc _⟩
 ·simp at m
theorem Qbf {w:WD}(t:TypeId){B g m:OA}{n d F p G u:Nat}{l D E:LU}(h:Sl w B n d l)(h2:Sl w g F p D)(I:Sl w m G u E) :
  Parts (w.alloc (.cells #[.slice B n d,.slice g F p,.slice m G u] t)) (some ⟨w.1.size,0,none⟩) 3 3 [l,D,E]:=by
 refine⟨rfl,AE _,by unfold maxLen;omega,λj y f=>?_⟩;rcases j with _|_|_|j
 ·obtain rfl:l=y:=by simpa using f
  exact⟨_,B,n,d,rfl,by simp,q5u w _ t 0,h.alloc _⟩
 ·obtain rfl:D=y:=by simpa using f
  exact⟨_,g,F,p,rfl,by simp,q5u w _ t 1,h2.alloc _⟩
 ·obtain rfl:E=y:=by simpa using f
  exact⟨_,m,G,u,rfl,by simp,q5u w _ t 2,I.alloc _⟩
 ·simp at f
theorem Qaj (l:LU):cat [l] 1=l:=by simp[cat]
theorem Qco (l d:LU):cat [l,d] 2=l++d:=by simp[cat]
theorem Qcp (l d f:LU):cat [l,d,f] 3=l++(d++f):=by simp[cat]
theorem Qas (l:LU):tot [l] 1=l.length:=by simp[tot,cat]
theorem Qc3 (l d:LU):tot [l,d] 2=l.length+d.length:=by simp[tot,cat]
theorem Qc4 (l d f:LU):tot [l,d,f] 3=l.length+(d.length+f.length):=by simp[tot,cat]
theorem qvv (w:WD)(e:TypeId)(l:LU)(d:Array Value)(h:d.toList=l.map bv)(hm:l.length<=16777216):Own (w.alloc (.cells d e)) w.1.size e (some ⟨w.1.size,0,none⟩) l.length l.length l:=by
 have f:d.size=l.length:=by rw[<-Array.length_toList,h,AF]
 have:=World.ownsRow_lit (e:=e) (size:=1) w d l.length (AE _) (by unfold maxLen;omega) (by omega);rw[h] at this;exact this
theorem qnj (w:WD)(e:TypeId)(b:UInt8)(v:Value)(h:bv b=v):Own (w.alloc (.cells #[v] e)) w.1.size e (some ⟨w.1.size,0,none⟩) 1 1 [b]:=
 qvv w e [b] #[v] (by rw[<-h];rfl) (by simp)
theorem q1p {B:Nat}{a w:WD}(h:Below B a w)(n:Nat):Below B a (w.drewN n):=⟨h.os,h.tape,h.output,h.size,h.block⟩
theorem qlb (l:LU)(b:ByteArray):(l.map (λx:UInt8=>(x.toNat:Int))).foldl (λr n=>r.push (UInt8.ofNat n.toNat)) b=⟨b.data++l.toArray⟩:=by
 induction l generalizing b with
 |nil=>simp
 |cons x l ih=>
  rw[BJ,List.foldl_cons,ih];have e:UInt8.ofNat ((x.toNat:Int)).toNat=x:=by simp
  rw[e]
  cases b;simp[ByteArray.push]
theorem q5v {P:Program}(src d e:TypeId)(T:Uh P src e)(y:P.underlying e=some (.int .u8))(hd:P.underlying d=some .string){w:WD}{A:OA}{n c:Nat}{l:LU}(h:Sl w A n c l) :
  (convert src d (.slice A n c)).run P w=.ok (.string ⟨l.toArray⟩) w:=by
 rw[run_convert_bytes_string w src d e A n c T.sl y hd];rcases A with _|a
 ·have D:l=[]:=by
   rcases l with _|⟨x,l⟩
   ·rfl
   ·obtain⟨m,f,_⟩:=h.2.2.2 0 (bv x) rfl
    cases f
  subst D;simp[Conv.bytesToString,Sem.run_pure];rfl
 ·have g:∀(j:Nat) v,(l.map bv)[j]?=some v->w.cell? (a.add j)=some v:=λj u E=>by
   obtain⟨m,f,_,g⟩:=h.2.2.2 j u E;injection f with f;subst f;exact g
  have h2:=run_loadCells_list (P:=P) w a (l.map bv) g;rw[AF,h.len] at h2;have p:l.map bv=(l.map (λx:UInt8=>(x.toNat:Int))).map (Value.int .u8):=by simp[bv,Function.comp_def]
  rw[p] at h2;rw[run_bytesToString w a n c _ h2,qlb];simp[ByteArray.empty,ByteArray.emptyWithCapacity];rfl
theorem qbo (w:WD)(e:TypeId)(s:ByteArray)(h:s.size<=maxLen):Sl (Lib.bytesWorld w e s) (some ⟨w.1.size,0,none⟩) s.size (grownCap w s.size 0 e) s.data.toList:=by
 refine⟨by simp,grownCap_ge _ _ _ _,grownCap_le_maxLen _ _ _ _ h,λj u f=>⟨_,rfl,by rw[Lib.bytesWorld_size];simp,?_⟩⟩;have g:j<s.size:=by have:=(List.getElem?_eq_some_iff.1 f).1;simpa using this
 rw[Addr.add_lit,AT,Lib.bytesWorld_cell w e s j g];have d:j<s.data.toList.length:=by simpa using g
 rw[BA,AC d] at f;rw[<-f,AG,AC d];rfl
theorem q6f (w:WD)(e:TypeId)(s:ByteArray):Below w.1.size w (Lib.bytesWorld w e s):=
 ⟨rfl,rfl,rfl,by rw[Lib.bytesWorld_size];omega,λk d=>Lib.bytesWorld_at_old w e s k d⟩
theorem Ah (w:WD):Sl w none 0 0 []:=⟨rfl,AE _,AW _,λj u d=>by simp at d⟩
section
variable {P:Program}{t e:TypeId}(w:WD)
end
def txt (ss:List ByteArray)(k:Nat):ByteArray:=ss.getD k ByteArray.empty
def Aa (w:WD)(A:OA)(n c:Nat)(ss:List ByteArray):Prop:=
 Holds w w.1.size A n c (ss.map Value.string)/\∀s∈ss,s.size<=maxLen
section
variable {w w':WD}{n c:Nat}{A:OA}{ss:List ByteArray}
theorem Aa.len (h:Aa w A n c ss):ss.length=n:=by simpa using h.1.1
theorem Aa.cap (h:Aa w A n c ss):n<=c:=h.1.2.1
theorem Aa.max (h:Aa w A n c ss):c<=maxLen:=h.1.2.2.1
theorem Aa.cell (h:Aa w A n c ss){k:Nat}(hk:k<n):∃d,A=some d/\d.block<w.1.size/\w.cell? (d.add k)=some (.string (txt ss k))/\(txt ss k).size<=maxLen:=by
 have f:k<ss.length:=by have:=h.len;omega
 have e:txt ss k=ss[k]:=by unfold txt;rw[AG,AC f];rfl
 obtain⟨d,g,m,p⟩:=h.1.2.2.2 k (.string ss[k]) (by simp[f]);exact⟨d,g,m,by rw[e];exact p,by rw[e];exact h.2 _ (List.getElem_mem f)⟩
end
section
open Go.ChangeShapes Go.WideShapes Go.ChangeAt
section
variable {H:Type}{enc:TypeId × Value->H}{P:Program}
theorem q6g (F:laidOutB P=true){W E:WD}{G:Nat->Bool}:∀(m:List TypeId) (vs:LV) (u:List (DataW H)) (g:List MemPlace),
  (∀t∈m,P.readableRec t=true/\t<P.types.size)->DataW.TrodAll enc P W 0 (λ_=>true) true m vs u g->(∀p∈g,W.sameAt E p)->(∀p∈g,G p.block=true)->DataW.TrodAll enc P E 0 G true m vs u g
 |[],vs,u,g,_,h,_,_=>by
  obtain⟨rfl,rfl,rfl⟩:=trodAll_nil h;exact trodAll_mk0
 |t::m,vs,u,g,hr,h,hs,hsp=>by
  obtain⟨v,D,d,y,p,q,rfl,rfl,rfl,h1,h2⟩:=trodAll_cons h;have ⟨J,K⟩:=hr t (AP ..);refine⟨p,q,WideElems.Trod_stays F J K h1 (λx f=>hs x (List.mem_append_left _ f)) (λx f=>hsp x (List.mem_append_left _ f)),?_,rfl⟩;exact q6g F m D y q (λt I=>hr t (AO _ I)) h2 (λx f=>hs x (AU _ f)) (λx f=>hsp x (AU _ f))
theorem qs0 {f:Func}{s:ChangeSpec}{tb:TypeId}{W I:WD}{g:Array Value}{F O:List (DataW H)}{d:List MemPlace}
  (G:f.resultTypes=#[tb]) (D:P.underlying tb=some .bool) (m:s.vars=[]) (U:laidOutB P=true) (Y:∀t∈f.params.toList,P.readableRec t=true/\t<P.types.size)
  (J:DataW.Whole enc P f.params.toList s.vars false W g.toList F O d) (u:s.fn H (F++O)={ results:=[.lit (.bool true)],args:=F }) (R:Below W.1.size W I) :
  s.post enc P f false true false false W g (.bool true) I:=by
 have E:∀p∈d,p.block<W.1.size:=λp X=>J.lt p X
 have K:=J;obtain⟨p,q,T,Q,rfl,Z,hn⟩:=J;rw[m] at Q;obtain⟨rfl,rfl⟩:=trodVars_none Q;rw[BM] at E u;have y:DataW.TrodAll enc P I 0 (λb=>decide (b<W.1.size)) true f.params.toList g.toList F p:=
  q6g U _ _ _ _ Y T (λx M=>R.same (E x M)) (λx M=>by simpa using E x M)
 refine⟨F,[],p++[],[],p,[],K,?_,?_,?_,?_,λh=>by cases h⟩
 ·rw[BM,u,G];exact trodAll_mk1 (shut_bool D true)
 ·rw[BM,u];exact y
 ·rw[BM,u,m];rfl
 ·exact R.frame _
end
end
theorem Bv:Uh prog 22 5:=⟨underlying22,by kernel_rfl⟩
def Tab (w:WD):Prop:=1<w.1.size/\∀k:Nat,k<16->w.cell? ⟨1,k,none⟩=some (.int .u32 (Eu k:Nat))
theorem Tab.below {w w':WD}{B:Nat}(h:Tab w)(hb:Below B w w')(hB:1<B):Tab w':=
 ⟨by have:=hb.size;have:=h.1;omega,λk d=>(hb.cell (p:=⟨1,k,none⟩) hB).trans (h.2 k d)⟩
theorem qbp (r:Nat)(u:r<4294967296)(w:WD)(h:Tab w) :
  Calls prog 155 #[.int .u32 (r:Nat)] w λe w'=>e=.returned (.int .u32 (Eu r:Nat))/\w=w':=by
 obtain⟨m,hm⟩:∃m,m=r % 16:=⟨_,rfl⟩;have d:m<16:=by omega
 have f:=h.2 m d;have g:bits .and .u32 (r:Int) 15=(m:Int):=by
  rw[show (15:Int)=((15:Nat):Int) from rfl,u32_and_nat r 15 u (by omega),nat_mask4,hm]
 have p:=HI hm;clear hm;go_enter func155,ntmps155
 go_wp2;go_ret;have y:bits .xor .u32 ((r:Int) / 16) (Eu m:Nat)=(Eu r:Nat):=by
  rw[show (r:Int) / 16=((r / 16:Nat):Int) by omega,u32_xor_nat _ _ (by omega) (qj0 (by omega)),p.out,<-qrx r]
 exact⟨q9i y,rfl⟩
theorem qs1 (r:Nat)(l:LU)(k:Nat)(h:k<l.length):Ye r (l.take (k+1))=Eu (Eu (Ye r (l.take k) ^^^ Yb l k)):=by
 rw[q9j l k h,qha];have:=q8c l k;unfold by8 st8;rw[show (UInt8.ofNat (Yb l k)).toNat=Yb l k by simp;omega]
theorem qs2 (s:Nat)(R:s<4294967296)(A:OA)(n c:Nat)(l:LU)(w:WD)(g:Sl w A n c l)(T:Tab w) :
  Calls prog 129 #[.int .u32 (s:Nat),.slice A n c] w λe w'=>e=.returned (.int .u32 (more s l:Nat))/\w=w':=by
 have hm:=g.max;have hc:=g.cap;unfold maxLen at hm;have O:=HI g.len;obtain⟨q,J⟩:∃q,q=4294967295-s:=⟨_,rfl⟩;have Q:bits .xor .u32 IntKind.u32.max (s:Int)=(q:Int):=by
  rw[show IntKind.u32.max=((4294967295:Nat):Int) from rfl,u32_xor_nat _ s (by omega) R,Nat.xor_comm,qj2 R,J]
 have u:q<4294967296:=by omega
 have U:=HI J;clear J;go_enter func129,ntmps129
 go_wp2;go_loop [5,12] (λr i=>∃k:Nat,k<=n/\i=.int .i64 k/\r=.int .u32 (Ye q (l.take k):Nat)) (λ_ i=>n-(intOf i).toNat)
 case atStart=>exact⟨0,AW _,rfl,rfl⟩
 case round=>
  obtain⟨k,hk,rfl,rfl⟩:=hrel;have D:=qng (l.take k) u;by_cases p:k<n
  ·obtain⟨Z,rfl,hb,I⟩:=g.cell p;have Y:=q8c l k;have G:=HI (qs1 q l k (by rw[O.out];exact p));generalize Ye q (l.take k)=x at D G;have E:bits .xor .u32 (x:Int) (Yb l k:Int)=((x ^^^ Yb l k:Nat):Int):=u32_xor_nat _ _ D (by omega);have K:x ^^^ Yb l k<4294967296:=qnf D (by omega);generalize x ^^^ Yb l k=y at E K G;have F:=qj0 K;go_wp2_with fail
   refine (qbp y K w T).mono ?_;rintro e w' ⟨rfl,rfl⟩;obtain⟨M,f⟩:∃M,M=Eu y:=⟨_,rfl⟩;rw[<-f] at F G ⊢;have X:=HI f;clear f;go_wp2_with fail
   refine (qbp M F w T).mono ?_;rintro e w' ⟨rfl,rfl⟩;go_wp2;exact⟨⟨k+1,by omega,by go_num,by rw[G.out]⟩,by simp[intOf];omega⟩
  ·obtain rfl:k=n:=by omega
   have W:=HI (show l.take k=l from AN (by rw[O.out];omega));have d:bits .xor .u32 IntKind.u32.max (Ye q (l.take k):Int)=((4294967295-Ye q (l.take k):Nat):Int):=by
    rw[show IntKind.u32.max=((4294967295:Nat):Int) from rfl,u32_xor_nat _ _ (by omega) D,Nat.xor_comm,qj2 D]
   have m:=HI d;clear d;go_wp2;go_ret;exact⟨q9i (by rw[m.out,W.out,U.out];rfl),rfl⟩
theorem qvw (A:OA)(n c:Nat)(l:LU)(w:WD)(h:Sl w A n c l)(d:Tab w) :
  Calls prog 94 #[.slice A n c] w λe w'=>e=.returned (.int .u32 (more 0 l:Nat))/\w=w':=by
 go_enter func94,ntmps94
 go_wp2_with (go_at_call 129;refine (qs2 0 (by omega) A n c l w h d).mono ?_;rintro e w' ⟨rfl,rfl⟩)
 go_ret;exact⟨rfl,rfl⟩
section
open Go.ChangeShapes Go.WideShapes Go.ChangeAt
theorem qex {H:Type}{enc:TypeId × Value->H}{P:Program}{W:WD}{base:Nat}{O:Nat->Bool}{held:Bool}{fuel:Nat}{t e:TypeId}{n:Nat}{k:IntKind}{f:LV}{zs:LI}{p:List MemPlace}
  (K:P.underlying t=some (.array n e)) (J:P.underlying e=some (.int k)) (I:P.cellsOf e=1) (h:DataW.trod enc P W base O held fuel t f=some (.agg (zs.map λz=>.lit (.int k z)),p)) (i:Nat) (hi:i<n):f[i]?=some (.int k (zs.getD i 0)):=by
 obtain⟨xs,m,rfl,D,_,hn,g⟩:=DataW.trod_array K h;have h1:=g i hi;rw[I,Nat.mul_one] at h1;have d:i<xs.length:=by omega
 rw[AC d] at h1;obtain⟨z,E,F,_⟩:=DataW.trod_int J h1;simp only[Prod.mk.injEq,DataW.agg.injEq] at D;have h2:=congrArg (λl=>l[i]?) D.1;simp only[BA] at h2;rw[AC d,F] at h2;have M:zs[i]?=some z:=by
  cases u:zs[i]? with
  |none=>rw[u] at h2;cases h2
  |some y=>rw[u] at h2;simp only[Option.map_some,Option.some.injEq] at h2;cases h2;rfl
 have G:f[i]?=some (.int k z):=by
  have:=congrArg (λl=>l[0]?) E;simpa [List.getElem?_take,List.getElem?_drop] using this
 rw[G,AG,M];rfl
end
section
open Go.ChangeShapes Go.WideShapes Go.ChangeAt
theorem Oo:ownKnob prog.godebug=none:=by kernel_rfl
theorem Qb4:laidOutB prog=true:=by kernel_rfl
abbrev LAID:List (String × DataW Unit):=[("cambium/sum.shifted",Rows.laid_cambium_sum_shifted),("unicode/utf8.acceptRanges",Rows.laid_unicode_utf8_acceptRanges),("unicode/utf8.first",Rows.laid_unicode_utf8_first)]
theorem qs3 (os:Os)(d:Array Value):laidMetH prog LAID ((World.laidAll prog os LAID).forCall (λ_ _=>0) ⟨#[],d,[]⟩).memory:=by
 rw[MakeChecks.laidMetH_plain _ _ _ (by kernel_rfl)];exact laidMet_laidAll _ (by kernel_rfl) (by kernel_rfl)
theorem qlc {P:Program}{W:WD}{name:String}{g:Nat}{t e:TypeId}{n:Nat}{k:IntKind}{zs:LI}{d:List (String × DataW Unit)}(D:P.globalNamed name=some g)(p:(P.globals[g]?).map (·.type)=some t)
  (I:P.underlying t=some (.array n e)) (G:P.underlying e=some (.int k)) (F:P.cellsOf e=1) (h:laidMet P ((name,.agg (zs.map λz=>.lit (.int k z)))::d) W) (i:Nat) (hi:i<n):W.cell? ⟨g,i,none⟩=some (.int k (zs.getD i 0)):=by
 obtain⟨O,⟨K,R,E,J,M,Q,m,u,y,f,_,_⟩,_,_⟩:=h;obtain rfl:=OI (D.symm.trans m);obtain rfl:=OI (p.symm.trans u);rw[World.var?_cell D y i];have:=qex I G F f i hi;simpa using this
theorem qs4 {W:WD}(h:laidMetH prog LAID W):Tab W:=by
 rw[MakeChecks.laidMetH_plain _ _ _ (by kernel_rfl)] at h;have f:∀k:Nat,k<16->W.cell? ⟨1,k,none⟩=some (.int .u32 (([0,274646895,549293790,820201905,1098587580,1361435347,1640403810,1905808397,2197175160,2460548119,2722870694,2987750089,3280807620,3553878443,3811616794,4084100981]:LI).getD k 0)):=λk d=>
  qlc (zs:=[0,274646895,549293790,820201905,1098587580,1361435347,1640403810,1905808397,2197175160,2460548119,2722870694,2987750089,3280807620,3553878443,3811616794,4084100981]) (g:=1) (by kernel_rfl) (by kernel_rfl) underlying256 underlying170 (by kernel_rfl) h k d
 have m:∀k:Nat,k<16->([0,274646895,549293790,820201905,1098587580,1361435347,1640403810,1905808397,2197175160,2460548119,2722870694,2987750089,3280807620,3553878443,3811616794,4084100981]:LI).getD k 0=(Eu k:Nat):=by decide +kernel
 exact⟨by have:=World.block_lt_of_cell? W _ (f 0 (by omega));exact this,λk d=>by rw[f k d,m k d]⟩
end
