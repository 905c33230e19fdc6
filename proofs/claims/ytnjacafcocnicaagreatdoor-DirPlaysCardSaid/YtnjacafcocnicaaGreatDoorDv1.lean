/- Words for slices whose cells are read, over the kit's library; nothing here speaks of one  -/
import Derived.Test.YtnjacafcocnicaaGreatDoorCrc
import Derived.WalkKit
import Derived.Deep.Draws
import Derived.Deep.AppendLies
import Derived.Maps.AppendAt
import Derived.Lib.ConvBytes
import Derived.ProofKit
import Derived.OpenShut
import Derived.Carry
import Derived.ChangeSame
import Derived.SizedLaws
import Derived.SliceStrings
import Derived.ChangeMaps5
import Derived.Maps.RangeRun
import Derived.Maps.Keyed
import Derived.Test.YtnjacafcocnicaaGreatDoorRows
import Derived.Laws.BitsAll
import Derived.Lib.SlBytesConst
import Derived.LaidMore
import Derived.LaidHandle
import Derived.MakeChecks
import Derived.Deep.Matrix
import Derived.Stop.Joined
namespace Go.Proofs.YtnjacafcocnicaaGreatDoor
open Go Go.RowKit Go.Proofs Tryz
set_option maxHeartbeats 400000
theorem Qi {w:WD}{o:Obj}:Below w.1.size w (w.alloc o):=(AI _ _).alloc (AE _) _
theorem qa6 {k:IntKind}{a b:Int}(h:a=b):Ending.returned (.int k a)=.returned (.int k b):=by rw[h]
def bv (b:UInt8):Value:=.int .u8 (b.toNat:Int)
def Vd (l:LU)(k:Nat):Nat:=(l.getD k 0).toNat
theorem q91 (l:LU)(k:Nat):Vd l k<=255:=by have:=(l.getD k 0).toNat_lt;unfold Vd;omega
theorem qg1 (l:LU)(k:Nat)(h:k<l.length):l.take (k+1)=l.take k++[UInt8.ofNat (Vd l k)]:=by
 rw[List.take_succ_eq_append_getElem h];simp[Vd,List.getD,h]
theorem q14 (a:Addr)(n:Nat):(a.add n).block=a.block:=by unfold Addr.add;split<;>rfl
theorem qkx (a:Addr)(i j:Nat):(a.add i).add j=a.add (i+j):=by
 unfold Addr.add;by_cases hi:i=0<;>by_cases f:j=0<;>simp[hi,f,Nat.add_assoc]
def Holds (w:WD)(B:Nat)(A:OA)(n c:Nat)(xs:LV):Prop:=
 xs.length=n/\n<=c/\c<=maxLen/\∀(j:Nat) u,xs[j]?=some u->∃f,A=some f/\f.block<B/\w.cell? (f.add j)=some u
def Sl (w:WD)(A:OA)(n c:Nat)(l:LU):Prop:=Holds w w.1.size A n c (l.map bv)
section
variable {w w':WD}{B B' n c:Nat}{A:OA}{xs:LV}
theorem Holds.len (h:Holds w B A n c xs):xs.length=n:=h.1
theorem Holds.keep (h:Holds w B A n c xs)(hk:∀p:Addr,p.block<B->w'.cell? p=w.cell? p):Holds w' B A n c xs:=
 ⟨h.1,h.2.1,h.2.2.1,λj u y=>by
  obtain⟨m,e,f,q⟩:=h.2.2.2 j u y;exact⟨m,e,f,(hk _ (by rw[q14];exact f)).trans q⟩⟩
theorem Holds.more (h:Holds w B A n c xs)(hB:B<=B'):Holds w B' A n c xs:=
 ⟨h.1,h.2.1,h.2.2.1,λj u p=>by
  obtain⟨f,e,q,m⟩:=h.2.2.2 j u p;exact⟨f,e,by omega,m⟩⟩
theorem Holds.below (h:Holds w B A n c xs)(hb:Below B w w'):Holds w' B A n c xs:=h.keep λ_ f=>hb.cell f
end
section
variable {w w':WD}{n c:Nat}{A:OA}{l:LU}
theorem Sl.len (h:Sl w A n c l):l.length=n:=by simpa using h.1
theorem Sl.cap (h:Sl w A n c l):n<=c:=h.2.1
theorem Sl.max (h:Sl w A n c l):c<=maxLen:=h.2.2.1
theorem Sl.below (h:Sl w A n c l)(hb:Below w.1.size w w'):Sl w' A n c l:=(Holds.below h hb).more hb.size
theorem Sl.drew (h:Sl w A n c l):Sl w.drew A n c l:=h
theorem Sl.cell (h:Sl w A n c l){k:Nat}(hk:k<n):∃f,A=some f/\f.block<w.1.size/\w.cell? (f.add k)=some (.int .u8 (Vd l k:Int)):=by
 have m:k<l.length:=by have:=h.len;omega
 obtain⟨f,e,p,q⟩:=h.2.2.2 k (bv l[k]) (by simp[m]);exact⟨f,e,p,by rw[q];unfold Vd bv;rw[AG,AC m];rfl⟩
theorem Sl.take (h:Sl w A n c l){k:Nat}(hk:k<=n):Sl w A k c (l.take k):=by
 refine⟨by have:=h.len;simp;omega,by have:=h.cap;omega,h.max,λj u f=>h.2.2.2 j u ?_⟩;rw[List.map_take,List.getElem?_take] at f;split at f
 ·exact f
 ·cases f
theorem Sl.drop (h:Sl w A n c l){k:Nat}(hk:k<=n):Sl w (if c=k then A else A.map (·.add k)) (n-k) (c-k) (l.drop k):=by
 refine⟨by have:=h.len;simp;omega,by have:=h.cap;omega,by have:=h.max;omega,λj u f=>?_⟩;rw[List.map_drop,List.getElem?_drop] at f;obtain⟨m,rfl,p,q⟩:=h.2.2.2 _ u f;have y:k+j<n:=by
  have:=h.1;have h2:=(List.getElem?_eq_some_iff.1 f).1;omega
 rw[AB (by have:=h.cap;omega)];exact⟨m.add k,rfl,by rw[q14];exact p,by rw[qkx];exact q⟩
end
structure Ug (P:Program)(t e:TypeId):Prop where
 sl:P.underlying t=some (.slice e)
 info:(P.info? e).map (λi=>(i.zero,i.size,i.bytes))=some (some (.int .u8 0),1,1)
def Own (w:WD)(base:Nat)(e:TypeId)(A:OA)(n c:Nat)(l:LU):Prop:=w.ownsRow base e 1 (.slice A n c) n (l.map bv)
theorem qg2 (l:LU):∀u∈l.map bv,u.oneCell'=true:=by
 intro u f;obtain⟨_,_,rfl⟩:=List.mem_map.1 f;rfl
section
variable {w w':WD}{base n c:Nat}{e:TypeId}{A:OA}{l:LU}
theorem Own.len (h:Own w base e A n c l):l.length=n:=by have:=h.1;simpa using this
theorem Own.sl (h:Own w base e A n c l):Sl w A n c l:=by
 refine⟨by have:=h.len;simpa using this,?_,?_,λj u q=>?_⟩
 ·rcases h.2 with⟨f,rfl⟩|⟨g,cap,m,f,_,_,h1,h2,_⟩
  ·omega
  ·injection f with _ _ p;omega
 ·rcases h.2 with⟨f,rfl⟩|⟨g,cap,m,f,_,_,h1,h2,_⟩
  ·injection f with _ _ p;unfold maxLen;omega
  ·injection f with _ _ p;omega
 ·rcases h.2 with⟨f,rfl⟩|⟨g,cap,m,f,F,D,h1,h2,p,E⟩
  ·have:=h.len;have h0:=(List.getElem?_eq_some_iff.1 q).1;simp at h0;omega
  ·have y:A=some ⟨g,0,none⟩:=by injection f
   subst y;exact⟨_,rfl,(Array.getElem?_eq_some_iff.1 D).1,h.cells (g:=g) rfl j u q⟩
theorem Own.block (h:Own w base e A n c l):∀f,A=some f->base<=f.block/\f.block<w.1.size:=by
 intro f m;subst m;exact h.lt f.block rfl
theorem Own.at_ {g:Nat}(h:Own w base e (some ⟨g,0,none⟩) n c l)(j:Nat)(hj:j<n):w.cell? ⟨g,j,none⟩=some (.int .u8 (Vd l j:Int))/\w.frozen? ⟨g,j,none⟩=false:=by
 have f:=h.len;refine⟨?_,World.ownsRow.frozenAt h j⟩;rw[World.ownsRow.cellAt h j (by omega),BA,AC (by omega)];unfold Vd;rw[AG,AC (by omega)];rfl
theorem Own.Vo {g:Nat}(h:Own w base e (some ⟨g,0,none⟩) n c l)(j:Nat)(b:UInt8):Own (w.setCell ⟨g,j,none⟩ (bv b)) base e (some ⟨g,0,none⟩) n c (l.set j b):=by
 unfold Own;rw[List.map_set];exact (World.ownsRow.stored h j (bv b)).1
theorem Own.less {b:Nat}(h:Own w base e A n c l)(hb:b<=base):Own w b e A n c l:=by
 refine⟨h.1,?_⟩;rcases h.2 with m|⟨g,cap,f,m,h1,r⟩
 ·exact .inl m
 ·exact .inr ⟨g,cap,f,m,AZ hb h1,r⟩
theorem Own.drew (h:Own w base e A n c l):Own w.drew base e A n c l:=h
theorem Own.below (h:Own w base e A n c l)(hb:Below w.1.size w w'):Own w' base e A n c l:=by
 refine⟨h.1,?_⟩;rcases h.2 with m|⟨g,cap,f,m,h1,p,r⟩
 ·exact .inl m
 ·exact .inr ⟨g,cap,f,m,h1,(hb.block g (Array.getElem?_eq_some_iff.1 p).1).trans p,r⟩
end
section
variable {P:Program}{t e:TypeId}(w:WD)
theorem qpu (n:Nat):(madeCells (Value.int .u8 0).cells (n*1)).toList=(List.replicate n (0:UInt8)).map bv:=by
 rw[show (Value.int .u8 0).cells=#[.int .u8 0] from rfl,Nat.mul_one,toList_madeCells_one];simp[bv]
theorem qg3 (T:Ug P t e){m:Array Oper}{f:List Oper}{o:Oper}{a:Act}{Q:Exit->Act->WD->Prop}
  (G:o.guard=none) (l c:Operand) (p:o.op=Op.makeSlice t l c) (D kc:IntKind) (n:Nat) (I:a.eval l=.int D (n:Int)) (F:a.eval c=.int kc (n:Int)) (J:n<=281474976710656)
  (E:∀w',Own w' w.1.size e (some ⟨w.1.size,0,none⟩) n n (List.replicate n 0)->Below w.1.size w w'->wpList P m Q f (a.put o.dst (.slice (some ⟨w.1.size,0,none⟩) n n)) w') :
  wpList P m Q (o::f) a w:=by
 obtain⟨i,hi,q,u,y⟩:=info_parts T.info;refine wpList_make_full w G l c t p w.1.size e i _ 1 T.sl hi q u D kc _ _ n I F rfl rfl (by rw[y];omega) (by unfold maxLen;omega) (AE _) λw' h1 h2=>?_
 refine E w' ?_ ((AI _ _).grown h2 (AE _) (by simp));unfold Own;rw[<-qpu];exact h1
theorem qg4 (T:Ug P t e){m:Array Oper}{f:List Oper}{o:Oper}{a:Act}{Q:Exit->Act->WD->Prop}
  (G:o.guard=none) (l c:Operand) (p:o.op=Op.makeSlice t l c) (D kc:IntKind) (n:Nat) (I:a.eval l=.int D 0) (F:a.eval c=.int kc (n:Int)) (J:n<=281474976710656)
  (E:∀w',Own w' w.1.size e (some ⟨w.1.size,0,none⟩) 0 n []->Below w.1.size w w'->wpList P m Q f (a.put o.dst (.slice (some ⟨w.1.size,0,none⟩) 0 n)) w') :
  wpList P m Q (o::f) a w:=by
 obtain⟨i,hi,q,u,y⟩:=info_parts T.info;refine wpList_make_own w G l c t p w.1.size e i _ 1 T.sl hi q u D kc _ n I F rfl (by rw[y];omega) (by unfold maxLen;omega) (AE _) λw' h1 h2=>?_
 exact E w' h1 ((AI _ _).grown h2 (AE _) (by simp))
theorem q6s (T:Ug P t e)(ty:TypeId)(base:Nat)(A:OA)(n c:Nat)(l:LU)(f:Own w base e A n c l)
  (B:OA) (m d:Nat) (y:LU) (I:Sl w B m d y) (Z:n+m<=140737488355328) (p:base<=w.1.size) :
  ∃D E w',(Builtin.append_ #[t,t] ty #[.slice A n c,.slice B m d]).run P w=.ok (.slice D (n+m) E) w'/\Own w' base e D (n+m) E (l++y)/\Below base w w'/\
   w.grownBy w' (Value.ownBlock (.slice A n c)):=by
 obtain⟨i,hi,Q,R,U⟩:=info_parts T.info;have fin:∀G w',(Builtin.append_ #[t,t] ty #[.slice A n c,.slice B m d]).run P w=.ok G w'->w'.ownsRow base e 1 G (n+m) (l.map bv++y.map bv)->
   w.grownBy w' (Value.ownBlock (.slice A n c))->∃D E w',(Builtin.append_ #[t,t] ty #[.slice A n c,.slice B m d]).run P w=.ok (.slice D (n+m) E) w'/\Own w' base e D (n+m) E (l++y)/\Below base w w'/\
   w.grownBy w' (Value.ownBlock (.slice A n c)):=by
  intro G w' h1 h2 F;have V:Below base w w':=(AI _ _).grown F p (λk Y=>(f.lt k Y).1);rw[<-List.map_append] at h2;rcases h2.2 with⟨rfl,h0⟩|⟨g,cap,K,rfl,_⟩
  ·exact⟨none,0,w',by rw[h1,h0],by unfold Own;rw[h0] at h2 ⊢;exact h2,V,F⟩
  ·exact⟨_,_,w',h1,h2,V,F⟩
 rcases B with _|J
 ·have hm:m=0:=by
   rcases Nat.eq_zero_or_pos m with h0|h0
   ·exact h0
   ·obtain⟨J,h,_⟩:=I.cell h0
    cases h
  subst hm;have hn:y=[]:=BF I.len;subst hn;refine fin (.slice A n c) w ?_ (by rw[Nat.add_zero,List.map_nil,BM];exact f) (World.grownBy.refl w _);rcases f.2 with⟨O,rfl⟩|⟨g,cap,K,O,_,_,M,_⟩
  ·rw[O];simp[Builtin.append_,run_underlying T.sl,sizeOf,typeInfo,hi,Builtin.lenOf,Builtin.firstCells]
  ·rw[O];simp[Builtin.append_,run_underlying T.sl,sizeOf,typeInfo,hi,Builtin.lenOf,Builtin.firstCells,M,storeCells]
 ·have q:∀j u,(y.map bv)[j]?=some u->w.cell? (J.add j)=some u:=by
   intro j u hu;obtain⟨W,h,_,X⟩:=I.2.2.2 j u hu;injection h with h;subst h;exact X
  obtain⟨G,w',h1,h2,F,_,_⟩:=run_append_own_at (P:=P) w base t ty e i _ 1 1 T.sl hi Q R U rfl (by omega) _ n _ f J m d (y.map bv) (by have:=I.len;simpa using this) q (qg2 _) (by unfold maxLen;omega) (by omega) p;exact fin G w' h1 h2 F
theorem q1r (T:Ug P t e){y:Array Oper}{f:List Oper}{o:Oper}{a:Act}{Q:Exit->Act->WD->Prop}(F:o.guard=none)(s x:Operand)
  (O:o.op=.call { callee:=.builtin .append,args:=#[s,x],argTypes:=#[t,t] })
  (base:Nat) (A:OA) (n c:Nat) (l:LU) (U:a.eval s=.slice A n c) (q:Own w base e A n c l)
  (B:OA) (m d:Nat) (I:LU) (V:a.eval x=.slice B m d) (R:Sl w B m d I) (G:n+m<=140737488355328) (p:base<=w.1.size)
  (h:∀D E w',Own w' base e D (n+m) E (l++I)->Below base w w'->wpList P y Q f (a.put o.dst (.slice D (n+m) E)) w'):wpList P y Q (o::f) a w:=
 wpList_plain F λK M=>by
  obtain⟨D,E,w',u,h2,J,_⟩:=q6s (P:=P) w T o.type base A n c l q B m d I R G p;unfold Oper.wp execOp;simp only[O,resolve,invoke,builtin,Sem.run_bind,Sem.run_pure,Result.andThen_ok,List.map_toArray,BJ,List.map_nil,U,V,u];exact M _ _ (h D E w' h2 J)
end
def nth (ls:List (LU))(j:Nat):LU:=ls.getD j []
def Parts (w:WD)(A:OA)(k c:Nat)(ls:List (LU)):Prop:=
 ls.length=k/\k<=c/\c<=maxLen/\∀(j:Nat) l,ls[j]?=some l->∃f B n d,A=some f/\f.block<w.1.size/\w.cell? (f.add j)=some (.slice B n d)/\Sl w B n d l
section
variable {w w':WD}{k c:Nat}{A:OA}{ls:List (LU)}
theorem Parts.len (h:Parts w A k c ls):ls.length=k:=h.1
theorem Parts.below (h:Parts w A k c ls)(hb:Below w.1.size w w'):Parts w' A k c ls:=
 ⟨h.1,h.2.1,h.2.2.1,λj l q=>by
  obtain⟨m,B,n,d,e,f,p,u⟩:=h.2.2.2 j l q;exact⟨m,B,n,d,e,Nat.lt_of_lt_of_le f hb.size,(hb.cell (by rw[q14];exact f)).trans p,u.below hb⟩⟩
theorem Parts.cell (h:Parts w A k c ls){j:Nat}(hj:j<k):∃f B n d,A=some f/\f.block<w.1.size/\w.cell? (f.add j)=some (.slice B n d)/\Sl w B n d (nth ls j):=by
 have p:j<ls.length:=by have:=h.1;omega
 have m:ls[j]?=some (nth ls j):=by simp[nth,List.getD,p]
 exact h.2.2.2 j _ m
end
def cat (ls:List (LU))(j:Nat):LU:=(ls.take j).flatten
def tot (ls:List (LU))(j:Nat):Nat:=(cat ls j).length
theorem qut (ls:List (LU)):cat ls 0=[]:=by simp[cat]
theorem quu (ls:List (LU)):tot ls 0=0:=by simp[tot,cat]
theorem qky (ls:List (LU))(k:Nat)(h:k<ls.length):cat ls (k+1)=cat ls k++nth ls k:=by
 unfold cat nth;rw[List.take_succ_eq_append_getElem h,List.flatten_append];simp[List.getD,h]
theorem qkz (ls:List (LU))(k:Nat)(h:k<ls.length):tot ls (k+1)=tot ls k+(nth ls k).length:=by
 unfold tot;rw[qky ls k h,AD]
theorem qyf (ls:List (LU))(k m:Nat)(h:k<=m):tot ls k<=tot ls m:=by
 unfold tot cat;have e:(ls.take m).flatten=(ls.take k).flatten++((ls.take m).drop k).flatten:=by
  rw[<-List.flatten_append];congr 1
  have h2:=AV k (ls.take m);rw[List.take_take,Nat.min_eq_left h] at h2;exact h2.symm
 rw[e,AD];omega
theorem Sl.alloc {w:WD}{A:OA}{n c:Nat}{l:LU}(h:Sl w A n c l)(o:Obj):Sl (w.alloc o) A n c l:=h.below ((AI _ _).alloc (AE _) o)
theorem q67 (w:WD)(f:Array Value)(t:TypeId)(j:Nat):(w.alloc (.cells f t)).cell? ((⟨w.1.size,0,none⟩:Addr).add j)=f[j]?:=by
 rw[Addr.add_lit,AT];exact cell_of_row (w.alloc (.cells f t)) w.1.size j f t (0,0) (BE w _)
theorem Dp {w:WD}(t:TypeId){B:OA}{n d:Nat}{l:LU}(h:Sl w B n d l):Parts (w.alloc (.cells #[.slice B n d] t)) (some ⟨w.1.size,0,none⟩) 1 1 [l]:=by
 refine⟨rfl,AE _,by unfold maxLen;omega,λj m f=>?_⟩;rcases j with _|j
 ·obtain rfl:l=m:=by simpa using f
  exact⟨_,B,n,d,rfl,by simp,q67 w _ t 0,h.alloc _⟩
 ·simp at f
theorem Qb2 {w:WD}(t:TypeId){B f:OA}{n d u m:Nat}{l q:LU}(h:Sl w B n d l)(h2:Sl w f u m q) :
  Parts (w.alloc (.cells #[.slice B n d,.slice f u m] t)) (some ⟨w.1.size,0,none⟩) 2 2 [l,q]:=by
 refine⟨rfl,AE _,by unfold maxLen;omega,λj y p=>?_⟩;rcases j with _|_|j
 ·obtain rfl:l=y:=by simpa using p
  exact⟨_,B,n,d,rfl,by simp,q67 w _ t 0,h.alloc _⟩
 ·obtain rfl:q=y:=by simpa using p
  exact⟨_,f,u,m,rfl,by simp,q67 w _ t 1,h2.alloc _⟩
 ·simp at p
theorem Qb3 {w:WD}(t:TypeId){B m p:OA}{n d F q G u:Nat}{l D E:LU}(h:Sl w B n d l)(h2:Sl w m F q D)(I:Sl w p G u E) :
  Parts (w.alloc (.cells #[.slice B n d,.slice m F q,.slice p G u] t)) (some ⟨w.1.size,0,none⟩) 3 3 [l,D,E]:=by
 refine⟨rfl,AE _,by unfold maxLen;omega,λj y f=>?_⟩;rcases j with _|_|_|j
 ·obtain rfl:l=y:=by simpa using f
  exact⟨_,B,n,d,rfl,by simp,q67 w _ t 0,h.alloc _⟩
 ·obtain rfl:D=y:=by simpa using f
  exact⟨_,m,F,q,rfl,by simp,q67 w _ t 1,h2.alloc _⟩
 ·obtain rfl:E=y:=by simpa using f
  exact⟨_,p,G,u,rfl,by simp,q67 w _ t 2,I.alloc _⟩
 ·simp at f
theorem Qa6 (l:LU):cat [l] 1=l:=by simp[cat]
theorem Qc7 (l f:LU):cat [l,f] 2=l++f:=by simp[cat]
theorem Qc8 (l f m:LU):cat [l,f,m] 3=l++(f++m):=by simp[cat]
theorem Qbc (l:LU):tot [l] 1=l.length:=by simp[tot,cat]
theorem Qdd (l f:LU):tot [l,f] 2=l.length+f.length:=by simp[tot,cat]
theorem Qde (l f m:LU):tot [l,f,m] 3=l.length+(f.length+m.length):=by simp[tot,cat]
theorem Nb {B:Nat}{a w:WD}(h:Below B a w)(n:Nat):Below B a (w.drewN n):=⟨h.os,h.tape,h.output,h.size,h.block⟩
theorem qnh (l:LU)(b:ByteArray):(l.map (λx:UInt8=>(x.toNat:Int))).foldl (λr n=>r.push (UInt8.ofNat n.toNat)) b=⟨b.data++l.toArray⟩:=by
 induction l generalizing b with
 |nil=>simp
 |cons x l ih=>
  rw[BJ,List.foldl_cons,ih];have e:UInt8.ofNat ((x.toNat:Int)).toNat=x:=by simp
  rw[e]
  cases b;simp[ByteArray.push]
theorem q68 {P:Program}(src f e:TypeId)(T:Ug P src e)(D:P.underlying e=some (.int .u8))(hd:P.underlying f=some .string){w:WD}{A:OA}{n c:Nat}{l:LU}(h:Sl w A n c l) :
  (convert src f (.slice A n c)).run P w=.ok (.string ⟨l.toArray⟩) w:=by
 rw[run_convert_bytes_string w src f e A n c T.sl D hd];rcases A with _|a
 ·have E:l=[]:=by
   rcases l with _|⟨x,l⟩
   ·rfl
   ·obtain⟨q,m,_⟩:=h.2.2.2 0 (bv x) rfl
    cases m
  subst E;simp[Conv.bytesToString,Sem.run_pure];rfl
 ·have p:∀(j:Nat) v,(l.map bv)[j]?=some v->w.cell? (a.add j)=some v:=λj u F=>by
   obtain⟨q,m,_,p⟩:=h.2.2.2 j u F;injection m with m;subst m;exact p
  have h2:=run_loadCells_list (P:=P) w a (l.map bv) p;rw[AF,h.len] at h2;have y:l.map bv=(l.map (λx:UInt8=>(x.toNat:Int))).map (Value.int .u8):=by simp[bv,Function.comp_def]
  rw[y] at h2;rw[run_bytesToString w a n c _ h2,qnh];simp[ByteArray.empty,ByteArray.emptyWithCapacity];rfl
theorem q7s (w:WD)(e:TypeId)(s:ByteArray)(h:s.size<=maxLen):Sl (Lib.bytesWorld w e s) (some ⟨w.1.size,0,none⟩) s.size (grownCap w s.size 0 e) s.data.toList:=by
 refine⟨by simp,grownCap_ge _ _ _ _,grownCap_le_maxLen _ _ _ _ h,λj u m=>⟨_,rfl,by rw[Lib.bytesWorld_size];simp,?_⟩⟩;have p:j<s.size:=by have:=(List.getElem?_eq_some_iff.1 m).1;simpa using this
 rw[Addr.add_lit,AT,Lib.bytesWorld_cell w e s j p];have f:j<s.data.toList.length:=by simpa using p
 rw[BA,AC f] at m;rw[<-m,AG,AC f];rfl
theorem q42 (w:WD)(e:TypeId)(s:ByteArray):Below w.1.size w (Lib.bytesWorld w e s):=
 ⟨rfl,rfl,rfl,by rw[Lib.bytesWorld_size];omega,λk f=>Lib.bytesWorld_at_old w e s k f⟩
theorem Il (w:WD):Sl w none 0 0 []:=⟨rfl,AE _,AW _,λj u f=>by simp at f⟩
section
variable {P:Program}{t e:TypeId}(w:WD)
end
def txt (ss:List ByteArray)(k:Nat):ByteArray:=ss.getD k ByteArray.empty
def Bg (w:WD)(A:OA)(n c:Nat)(ss:List ByteArray):Prop:=
 Holds w w.1.size A n c (ss.map Value.string)/\∀s∈ss,s.size<=maxLen
section
variable {w w':WD}{n c:Nat}{A:OA}{ss:List ByteArray}
theorem Bg.len (h:Bg w A n c ss):ss.length=n:=by simpa using h.1.1
theorem Bg.cap (h:Bg w A n c ss):n<=c:=h.1.2.1
theorem Bg.max (h:Bg w A n c ss):c<=maxLen:=h.1.2.2.1
theorem Bg.cell (h:Bg w A n c ss){k:Nat}(hk:k<n):∃f,A=some f/\f.block<w.1.size/\w.cell? (f.add k)=some (.string (txt ss k))/\(txt ss k).size<=maxLen:=by
 have m:k<ss.length:=by have:=h.len;omega
 have e:txt ss k=ss[k]:=by unfold txt;rw[AG,AC m];rfl
 obtain⟨f,p,q,u⟩:=h.1.2.2.2 k (.string ss[k]) (by simp[m]);exact⟨f,p,q,by rw[e];exact u,by rw[e];exact h.2 _ (List.getElem_mem m)⟩
end
section
open Go.ChangeShapes Go.WideShapes Go.ChangeAt
section
variable {H:Type}{enc:TypeId × Value->H}{P:Program}
theorem q6t (G:laidOutB P=true){W F:WD}{I:Nat->Bool}:∀(u:List TypeId) (vs:LV) (y:List (DataW H)) (m:List MemPlace),
  (∀t∈u,P.readableRec t=true/\t<P.types.size)->DataW.TrodAll enc P W 0 (λ_=>true) true u vs y m->(∀p∈m,W.sameAt F p)->(∀p∈m,I p.block=true)->DataW.TrodAll enc P F 0 I true u vs y m
 |[],vs,y,m,_,h,_,_=>by
  obtain⟨rfl,rfl,rfl⟩:=trodAll_nil h;exact trodAll_mk0
 |t::u,vs,y,m,hr,h,hs,hsp=>by
  obtain⟨v,E,d,D,p,q,rfl,rfl,rfl,h1,h2⟩:=trodAll_cons h;have ⟨K,M⟩:=hr t (AP ..);refine⟨p,q,WideElems.Trod_stays G K M h1 (λx f=>hs x (List.mem_append_left _ f)) (λx f=>hsp x (List.mem_append_left _ f)),?_,rfl⟩;exact q6t G u E D q (λt J=>hr t (AO _ J)) h2 (λx f=>hs x (AU _ f)) (λx f=>hsp x (AU _ f))
theorem ql0 {f:Func}{s:ChangeSpec}{tb:TypeId}{W K:WD}{u:Array Value}{I R:List (DataW H)}{m:List MemPlace}
  (J:f.resultTypes=#[tb]) (F:P.underlying tb=some .bool) (y:s.vars=[]) (X:laidOutB P=true) (Z:∀t∈f.params.toList,P.readableRec t=true/\t<P.types.size)
  (M:DataW.Whole enc P f.params.toList s.vars false W u.toList I R m) (D:s.fn H (I++R)={ results:=[.lit (.bool true)],args:=I }) (U:Below W.1.size W K) :
  s.post enc P f false true false false W u (.bool true) K:=by
 have G:∀p∈m,p.block<W.1.size:=λp Y=>M.lt p Y
 have O:=M;obtain⟨p,q,V,T,rfl,hz,hn⟩:=M;rw[y] at T;obtain⟨rfl,rfl⟩:=trodVars_none T;rw[BM] at G D;have E:DataW.TrodAll enc P K 0 (λb=>decide (b<W.1.size)) true f.params.toList u.toList I p:=
  q6t X _ _ _ _ Z V (λx Q=>U.same (G x Q)) (λx Q=>by simpa using G x Q)
 refine⟨I,[],p++[],[],p,[],O,?_,?_,?_,?_,λh=>by cases h⟩
 ·rw[BM,D,J];exact trodAll_mk1 (shut_bool F true)
 ·rw[BM,D];exact E
 ·rw[BM,D,y];rfl
 ·exact U.frame _
end
end
section
open Go.ChangeMaps (setBlock)
def kI (e:MapEntry):Int:=match e.key with|.int _ z=>z|_=>0
def Zf (s:Int):List MapEntry->Option Value
 |[]=>none
 |e::r=>if kI e=s then some e.val else Zf s r
def Xc (s:Int)(v:Value)(c:Nat):List MapEntry->List MapEntry
 |[]=>[{ key:=.int .i64 s,val:=v,born:=c }]
 |e::r=>if kI e=s then { e with key:=.int .i64 s,val:=v }::r else e::Xc s v c r
def Ye (s:Int):List MapEntry->List MapEntry
 |[]=>[]
 |e::r=>if kI e=s then r else e::Ye s r
structure Uo (l:List MapEntry)(clock:Nat):Prop where
 key:∀e∈l,e.key=.int .i64 (kI e)
 one:(l.map kI).Nodup
 born:(l.map (·.born)).Nodup
 clock:∀e∈l,e.born<clock
theorem Qcl (s:Int)(v:Value)(c:Nat):kI { key:=.int .i64 s,val:=v,born:=c }=s:=rfl
theorem qea {s:Int}{v:Value}:∀{l:List MapEntry},Zf s l=some v->∃e∈l,kI e=s/\e.val=v
 |[],h=>by cases h
 |e::r,h=>by
  unfold Zf at h;split at h
  ·exact⟨e,by simp,by assumption,by simpa using h⟩
  ·obtain⟨x,f,h2⟩:=qea h;exact⟨x,by simp[f],h2⟩
theorem qg5 {s:Int}:∀{l:List MapEntry},Zf s l=none->∀e∈l,kI e≠s
 |[],_,e,he=>by cases he
 |x::r,h,e,he=>by
  unfold Zf at h;split at h
  ·cases h
  ·rcases List.mem_cons.1 he with rfl|h2
   ·assumption
   ·exact qg5 h e h2
theorem q43 {l:List MapEntry}(hn:(l.map kI).Nodup){e:MapEntry}(f:e∈l):Zf (kI e) l=some e.val:=by
 induction l with
 |nil=>cases f
 |cons x r ih=>
  unfold Zf;rw[BJ,List.nodup_cons] at hn;rcases List.mem_cons.1 f with rfl|h2
  ·simp
  ·rw[AB (λh=>hn.1 (by rw[h];exact List.mem_map.2 ⟨e,h2,rfl⟩))];exact ih hn.2 h2
theorem qeb (s:Int)(v:Value)(c:Nat)(z:Int):∀l:List MapEntry,Zf z (Xc s v c l)=if z=s then some v else Zf z l
 |[]=>by
  unfold Xc Zf;rw[Qcl];by_cases h:s=z
  ·simp[h]
  ·have:¬z=s:=λe=>h e.symm
   simp[h,this,Zf]
 |e::r=>by
  unfold Xc;by_cases h:kI e=s
  ·rw[AA h];by_cases f:s=z
   ·subst f;simp[Zf,kI]
   ·have m:¬z=s:=λe=>f e.symm
    have p:¬kI e=z:=λe=>f (h.symm.trans e)
    have q:¬kI { e with key:=.int .i64 s,val:=v }=z:=f;unfold Zf;rw[AB q,AB m,AB p]
  ·rw[AB h];unfold Zf;rw[qeb s v c z r];by_cases f:kI e=z
   ·have:¬z=s:=λu=>h (f.trans u)
    simp[f,this]
   ·simp[f]
theorem q9p {s:Int}(z:Int):∀{l:List MapEntry},(l.map kI).Nodup->Zf z (Ye s l)=if z=s then none else Zf z l
 |[],_=>by simp[Ye,Zf]
 |e::r,hn=>by
  rw[BJ,List.nodup_cons] at hn;unfold Ye;by_cases h:kI e=s
  ·rw[AA h];by_cases f:z=s
   ·rw[AA f,f]
    cases p:Zf s r with
    |none=>rfl
    |some v=>
     obtain⟨x,u,h2,_⟩:=qea p;exact absurd (List.mem_map.2 ⟨x,u,h2.trans h.symm⟩) hn.1
   ·rw[AB f];have q:Zf z (e::r)=Zf z r:=by
     show (if kI e=z then some e.val else Zf z r)=_;rw[AB (λm=>f (m.symm.trans h))]
    exact q.symm
  ·rw[AB h];unfold Zf;rw[q9p z hn.2];by_cases f:kI e=z
   ·have:¬z=s:=λm=>h (f.trans m)
    simp[f,this]
   ·simp[f]
theorem qa7 {s:Int}{v:Value}{c:Nat}:∀{l:List MapEntry} {e:MapEntry},e∈Xc s v c l->e∈l\/(e.key=.int .i64 s/\(e.born=c\/∃x∈l,x.born=e.born))
 |[],e,h=>by
  simp[Xc] at h;subst h;exact .inr ⟨rfl,.inl rfl⟩
 |x::r,e,h=>by
  unfold Xc at h;split at h
  ·rcases List.mem_cons.1 h with rfl|h2
   ·exact .inr ⟨rfl,.inr ⟨x,by simp,rfl⟩⟩
   ·exact .inl (by simp[h2])
  ·rcases List.mem_cons.1 h with rfl|h2
   ·exact .inl (by simp)
   ·rcases qa7 h2 with f|⟨f,m⟩
    ·exact .inl (by simp[f])
    ·refine .inr ⟨f,m.imp id λ⟨y,q,p⟩=>⟨y,by simp[q],p⟩⟩
theorem q69 {s:Int}:∀{l:List MapEntry} {e:MapEntry},e∈Ye s l->e∈l
 |[],e,h=>by cases h
 |x::r,e,h=>by
  unfold Ye at h;split at h
  ·simp[h]
  ·rcases List.mem_cons.1 h with rfl|h2
   ·simp
   ·simp[q69 h2]
theorem qit {s:Int}:∀(l:List MapEntry),List.Sublist (Ye s l) l
 |[]=>.slnil
 |x::r=>by
  unfold Ye;split
  ·exact List.sublist_cons_self ..
  ·exact (qit r).cons_cons x
theorem qyg {s:Int}{v:Value}{c:Nat}:∀(l:List MapEntry),(Xc s v c l).map kI=if Zf s l=none then l.map kI++[s] else l.map kI
 |[]=>by simp[Xc,Zf,kI]
 |x::r=>by
  unfold Xc Zf;by_cases h:kI x=s
  ·rw[AA h,AA h,AB (by simp)];simp[kI] at h ⊢;exact h.symm
  ·rw[AB h,AB h,BJ,qyg r];split<;>simp
theorem qec {s:Int}{v:Value}{c:Nat}:∀(l:List MapEntry),(Xc s v c l).map (·.born)=if Zf s l=none then l.map (·.born)++[c] else l.map (·.born)
 |[]=>by simp[Xc,Zf]
 |x::r=>by
  unfold Xc Zf;by_cases h:kI x=s
  ·rw[AA h,AA h,AB (by simp)];simp
  ·rw[AB h,AB h,BJ,qec r];split<;>simp
theorem qcn {s:Int}:∀(l:List MapEntry),(Ye s l).length=if Zf s l=none then l.length else l.length-1
 |[]=>by simp[Ye,Zf]
 |x::r=>by
  unfold Ye Zf;by_cases h:kI x=s
  ·simp[h]
  ·rw[AB h,AB h,AX,qcn r];split
   ·simp
   ·rename_i f;have:0<r.length:=by
     rcases r with _|⟨a,b⟩
     ·exact absurd rfl f
     ·simp
    simp;omega
theorem quv:Uo [] 0:=⟨by simp,by simp,by simp,by simp⟩
theorem Uo.put {l:List MapEntry}{clock:Nat}(h:Uo l clock)(s:Int)(v:Value):Uo (Xc s v clock l) (if Zf s l=none then clock+1 else clock):=by
 have y:∀e∈Xc s v clock l,e.born<clock+1:=λe f=>by
  rcases qa7 f with h2|⟨_,h2|⟨x,u,h2⟩⟩
  ·have:=h.clock e h2;omega
  ·omega
  ·have:=h.clock x u;omega
 refine⟨λe f=>?_,?_,?_,λe f=>?_⟩
 ·rcases qa7 f with h2|⟨h2,_⟩
  ·exact h.key e h2
  ·unfold kI;rw[h2]
 ·rw[qyg];split
  ·rename_i p;rw[List.nodup_append];refine⟨h.one,by simp,λa q b m=>?_⟩;obtain rfl:b=s:=by simpa using m
   obtain⟨e,f,rfl⟩:=List.mem_map.1 q;exact qg5 p e f
  ·exact h.one
 ·rw[qec];split
  ·rw[List.nodup_append];refine⟨h.born,by simp,λa q b m=>?_⟩;obtain rfl:b=clock:=by simpa using m
   obtain⟨e,f,rfl⟩:=List.mem_map.1 q;have:=h.clock e f;show e.born≠b;omega
  ·exact h.born
 ·by_cases p:Zf s l=none
  ·rw[AA p];exact y e f
  ·rw[AB p];have m:e.born∈(Xc s v clock l).map (·.born):=List.mem_map.2 ⟨e,f,rfl⟩;rw[qec,AB p] at m;obtain⟨x,u,h2⟩:=List.mem_map.1 m;have:=h.clock x u;rw[<-h2];exact this
theorem Uo.del {l:List MapEntry}{clock:Nat}(h:Uo l clock)(s:Int):Uo (Ye s l) clock:=
 ⟨λe f=>h.key e (q69 f),h.one.sublist ((qit l).map kI),h.born.sublist ((qit l).map _),λe f=>h.clock e (q69 f)⟩
theorem qa8 (s:Int):∀(l:List MapEntry) (i:Nat),(∀e∈l,e.key=.int .i64 (kI e))->
  (Instr.findNow (.int .i64) (.int .i64 s) l i=some none/\Zf s l=none/\(∀v c,Xc s v c l=l++[{ key:=.int .i64 s,val:=v,born:=c }])/\Ye s l=l)\/
  ∃j e,Instr.findNow (.int .i64) (.int .i64 s) l i=some (some (i+j,e.val))/\l[j]?=some e/\e.key=.int .i64 s/\Zf s l=some e.val/\
   (∀v c,Xc s v c l=l.modify j λe=>{ e with key:=.int .i64 s,val:=v })/\Ye s l=l.eraseIdx j
 |[],i,_=>.inl ⟨rfl,rfl,λ_ _=>rfl,rfl⟩
 |x::r,i,hk=>by
  have q:=hk x (by simp);by_cases h:kI x=s
  ·refine .inr ⟨0,x,?_,rfl,by rw[q,h],by simp[Zf,h],λv c=>by simp[Xc,h],by simp[Ye,h]⟩;rw[Instr.findNow,q,h];simp[Instr.sameNow]
  ·have u:Instr.findNow (.int .i64) (.int .i64 s) (x::r) i=Instr.findNow (.int .i64) (.int .i64 s) r (i+1):=by
    have p:(s==kI x)=false:=by rw[beq_eq_false_iff_ne];exact λe=>h e.symm
    rw[Instr.findNow,q];simp[Instr.sameNow,p]
   rcases qa8 s r (i+1) (λe E=>hk e (by simp[E])) with⟨h1,h2,f,m⟩|⟨j,e,h1,h2,f,m,y,D⟩
   ·exact .inl ⟨u.trans h1,by simp[Zf,h,h2],λv c=>by simp[Xc,h,f],by simp[Ye,h,m]⟩
   ·refine .inr ⟨j+1,e,by rw[u,h1];congr 3;omega,by simpa using h2,f,by simp[Zf,h,m],λv c=>by simp[Xc,h,y],by simp[Ye,h,D]⟩
section
variable {P:Program}{w:WD}{t k e b clock:Nat}{l:List MapEntry}
theorem q4l (E:Uo l clock)(u:P.underlying t=some (.map k e))(m:P.underlying k=some (.int .i64)){z:Value}(F:(zeroValue e).run P w=.ok z w)(p:w.1[b]?=some (.map l.toArray clock))(s:Int) :
  (Instr.lookup t (.map (some b)) (.int .i64 s) false).run P w=.ok ((Zf s l).getD z) w:=by
 have q:=λy=>MapKept.run_checkKey (P:=P) (w:=w) m (k:=.int .i64 s) rfl y 9999
 rcases qa8 s l 0 E.key with⟨h1,h2,_⟩|⟨j,x,h1,_,_,D,_⟩
 ·have f:=MapKept.run_findKey (P:=P) (w:=w) m h1;simp[Instr.lookup,run_underlying u,MapKept.run_getObj_map p,q,f,F,h2]
 ·have f:=MapKept.run_findKey (P:=P) (w:=w) m h1;simp[Instr.lookup,run_underlying u,MapKept.run_getObj_map p,q,f,D]
theorem q30 (E:Uo l clock)(D:P.underlying t=some (.map k e))(q:P.underlying k=some (.int .i64))(f:w.1[b]?=some (.map l.toArray clock))(s:Int)(v:Value) :
  (Instr.mapUpdate t (.map (some b)) (.int .i64 s) v).run P w=.ok () (setBlock w b (.map (Xc s v clock l).toArray (if Zf s l=none then clock+1 else clock))):=by
 have y:=λF=>MapKept.run_checkKey (P:=P) (w:=w) q (k:=.int .i64 s) rfl F 9999
 rcases qa8 s l 0 E.key with⟨h1,h2,p,_⟩|⟨j,x,h1,J,p,G,I,_⟩
 ·have m:=MapKept.run_findKey (P:=P) (w:=w) q h1;simp[Instr.mapUpdate,run_underlying D,MapKept.run_getObj_map f,y,m,h2,p,MapKept.run_setObj_map _ f,setBlock]
 ·have m:=MapKept.run_findKey (P:=P) (w:=w) q h1;rw[AT] at m;have u:(Instr.keyThatStays (.int .i64 s) (.int .i64 s)).run P w=.ok (.int .i64 s) w:=by
   simp[Instr.keyThatStays,Instr.sameBits]
  simp[Instr.mapUpdate,run_underlying D,MapKept.run_getObj_map f,y,m,G,I,J,p,u,MapKept.run_setObj_map _ f,setBlock]
theorem q4m (E:Uo l clock)(y:P.underlying t=some (.map k e))(p:P.underlying k=some (.int .i64))(f:w.1[b]?=some (.map l.toArray clock))(s:Int)(u ty:TypeId) :
  (Builtin.delete_ #[t,u] ty #[.map (some b),.int .i64 s]).run P w=.ok (.tuple #[]) (setBlock w b (.map (Ye s l).toArray clock)):=by
 have q:=λD=>MapKept.run_checkKey (P:=P) (w:=w) p (k:=.int .i64 s) rfl D 9999
 rcases qa8 s l 0 E.key with⟨h1,h2,_,F⟩|⟨j,x,h1,J,I,_,_,G⟩
 ·have m:=MapKept.run_findKey (P:=P) (w:=w) p h1;simp[Builtin.delete_,run_underlying y,MapKept.run_getObj_map f,q,m,F,MapKept.run_setObj_map _ f,setBlock]
 ·have m:=MapKept.run_findKey (P:=P) (w:=w) p h1;rw[AT] at m;simp[Builtin.delete_,run_underlying y,MapKept.run_getObj_map f,q,m,G,MapKept.run_setObj_map _ f,setBlock]
end
end
theorem qa9 (a:Nat)(f:a<9223372036854775808):(BitVec.ofInt 64 (a:Int)).toNat=a:=by
 rw[BitVec.ofInt_natCast,BitVec.toNat_ofNat];exact Nat.mod_eq_of_lt (by omega)
theorem qiu (a b:Nat)(f:b<256):a*256 ||| b=a*256+b:=by
 have h:=Nat.two_pow_add_eq_or_of_lt (i:=8) (b:=b) (by omega) a;rw[show (2:Nat) ^ 8=256 from rfl] at h;rw[Nat.mul_comm];exact h.symm
theorem qza (a b:Nat)(m:a<36028797018963968)(f:b<256):bits .or .i64 ((a:Int)*256) (b:Int)=((256*a+b:Nat):Int):=by
 show IntKind.i64.wrap ((BitVec.ofInt 64 ((a:Int)*256) ||| BitVec.ofInt 64 (b:Int)).toNat:Int)=_;rw[show ((a:Int)*256)=((a*256:Nat):Int) by omega,BitVec.toNat_or,qa9 _ (by omega),qa9 _ (by omega),qiu _ _ f,IntWalk.i64_in _ (by omega)];omega
theorem Cb:Ug prog 48 5:=⟨underlying48,by kernel_rfl⟩
def low (x:Int)(i:Nat):UInt8:=UInt8.ofNat (x / 2 ^ (8*i) % 256).toNat
def Qx (x:Int):Nat->LU
 |0=>[]
 |k+1=>low x k::Qx x k
theorem J8 (x:Int)(k:Nat):(Qx x k).length=k:=by induction k with
 |zero=>rfl
 |succ k ih=>simp[Qx,ih]
def part (x:Int)(n k:Nat):LU:=List.replicate (n-k) 0++Qx x k
theorem quw (x:Int)(n k:Nat)(h:k<n):(part x n k).set (n-1-k) (low x k)=part x n (k+1):=by
 unfold part;have e:n-k=n-(k+1)+1:=by omega
 rw[e,List.replicate_succ',AM,List.set_append_right _ _ (by simp;omega)];simp[Qx,show n-1-k-(n-(k+1))=0 by omega]
theorem qyh (x:Int)(k:Nat):bv (low x k)=.int .u8 (x / 2 ^ (8*k) % 256):=by
 unfold bv low;rw[UInt8.toNat_ofNat'];congr 1
 omega
theorem qco (x m:Int)(w:WD)(h1:1<=m)(u:m<=8) :
  Calls prog 124 #[.int .i64 x,.int .i64 m] w λe w'=>∃A c,e=.returned (.slice A m.toNat c)/\Own w' w.1.size 5 A m.toNat c (Qx x m.toNat)/\Below w.1.size w w':=by
 obtain⟨n,rfl⟩:=Int.eq_ofNat_of_zero_le (show 0<=m by omega);rw[AJ];go_enter func124,ntmps124
 go_wp2_with (at_make;refine qg3 _ Cb rfl _ _ rfl _ _ n rfl rfl (by omega) ?_)
 intro F f p;go_wp2;go_loopw [11] (λi wr=>∃k:Nat,k<=n/\i=.int .i64 k/\Own wr w.1.size 5 (some ⟨w.1.size,0,none⟩) n n (part x n k)/\Below w.1.size w wr) (λi _=>n-(intOf i).toNat)
 case atStart=>exact⟨0,AW _,rfl,by simpa [part,Qx] using f,p⟩
 case round=>
  obtain⟨k,E,rfl,f,p⟩:=hrel;by_cases q:k<n
  ·obtain⟨y,D⟩:=f.at_ (n-1-k) (by omega);have hn:=f.Vo (n-1-k) (low x k);rw[quw x n k q,qyh] at hn;go_wp2;exact⟨⟨k+1,by omega,by go_num,hn,p.setCell (AE _) _⟩,by simp[intOf];omega⟩
  ·obtain rfl:k=n:=by omega
   go_wp2;go_ret;refine⟨_,_,rfl,?_,p⟩;simpa [part] using f
theorem q56 (A:OA)(k c:Nat)(ls:List (LU))(w:WD)(h:Parts w A k c ls)(X:tot ls k<=35184372088832) :
  Calls prog 123 #[.slice A k c] w λe w'=>∃y u D,e=.returned (.slice y u D)/\Own w' w.1.size 5 y u D (cat ls k)/\Below w.1.size w w':=by
 have V:k<=c:=h.2.1;have hm:c<=maxLen:=h.2.2.1;unfold maxLen at hm;have M:=HI h.len;go_enter func123,ntmps123
 go_wp2;go_loop [3,11] (λs i=>∃j:Nat,j<=k/\i=.int .i64 j/\s=.int .i64 (tot ls j:Nat)) (λ_ i=>k-(intOf i).toNat)
 case atStart=>exact⟨0,AW _,rfl,by rw[quu];rfl⟩
 case round=>
  obtain⟨j,Y,rfl,rfl⟩:=hrel;by_cases R:j<k
  ·obtain⟨U,B,n,d,rfl,I,E,K⟩:=h.cell R;have F:=qyf ls (j+1) k (by omega);have hn:=qkz ls j (by rw[M.out];omega);rw[K.len] at hn;have T:=HI hn;rw[hn] at F;clear hn;go_wp2;exact⟨⟨j+1,by omega,by go_num,by rw[T.out];go_num⟩,by simp[intOf];omega⟩
  ·obtain rfl:j=k:=by omega
   go_wp2_with (at_make;refine qg4 _ Cb rfl _ _ rfl _ _ (tot ls j) rfl rfl (by omega) ?_)
   intro w1 G O;go_wp2;go_loopw [6,24] (λs i wr=>∃(q:Nat) (y:OA) (u D:Nat),q<=j/\i=.int .i64 q/\s=.slice y u D/\Own wr w.1.size 5 y u D (cat ls q)/\Below w.1.size w wr) (λ_ i _=>j-(intOf i).toNat)
   case atStart=>exact⟨0,_,_,_,AW _,rfl,rfl,by rw[qut];exact G,O⟩
   case round=>
    obtain⟨q,y,u,D,Z,rfl,rfl,f,p⟩:=hrel;by_cases J:q<j
    ·have F:=qyf ls (q+1) j (by omega);have hn:=qkz ls q (by rw[M.out];omega);obtain⟨U,B,n,d,rfl,I,E,K⟩:=(h.below p).cell J;rw[K.len,show tot ls q=u from f.len] at hn;rw[hn] at F;clear hn;go_wp2_with (at_builtin;refine q1r _ Cb rfl _ _ rfl w.1.size y u D _ rfl f B n d _ rfl K (by omega) p.size ?_)
     intro W c2 w2 m Q;rw[<-qky ls q (by rw[M.out];omega)] at m;go_wp2;exact⟨⟨q+1,_,_,_,by omega,by go_num,rfl,m,p.trans Q⟩,by simp[intOf];omega⟩
    ·obtain rfl:q=j:=by omega
     go_wp2;go_ret;exact⟨_,_,_,rfl,f,p⟩
def Uw (l:LU)(x n:Int):LU:=if 1<=n/\n<=8 then l++Qx x n.toNat else l
theorem q7t (A:OA)(k c:Nat)(l:LU)(x n:Int)(w:WD)(h:Sl w A k c l)(R:k<=17592186044416) :
  Calls prog 126 #[.slice A k c,.int .i64 x,.int .i64 n] w λe w'=>∃D J F,e=.returned (.slice D J F)/\Own w' w.1.size 5 D J F (Uw l x n)/\Below w.1.size w w':=by
 have I:=h.len;have y:=HI I;clear I;by_cases h1:1<=n
 ·by_cases G:n<=8
  ·have u:=HI (show Uw l x n=l++Qx x n.toNat from AA ⟨h1,G⟩);go_enter func126,ntmps126
   go_wp2_with (first
    |(go_at_call 124;refine (qco x n _ h1 G).mono ?_;rintro e T ⟨Q,c1,rfl,q,p⟩)
    |(go_at_call 123;refine (q56 _ _ _ [l,Qx x n.toNat] _ (Qb2 48 (h.below p) q.sl) (by rw[Qdd,J8,y.out];omega)).mono ?_;rintro e M ⟨E,K,c2,rfl,f,m⟩))
   go_ret;rw[Qc7,<-u.out] at f;have O:=p.size;exact⟨_,_,_,rfl,f.less (by simp;omega),p.trans (((AI _ _).alloc O _).trans (m.mono (by simp;omega)))⟩
  ·have u:=HI (show Uw l x n=l from AB (by omega));go_enter func126,ntmps126
   go_wp2_with (go_at_call 123;refine (q56 _ _ _ [l] _ (Dp 48 h) (by rw[Qbc,y.out];omega)).mono ?_;rintro e M ⟨E,K,c2,rfl,f,m⟩)
   go_ret;rw[Qa6] at f;rw[u.out];exact⟨_,_,_,rfl,f.less (by simp),(Qi).trans (m.mono (by simp))⟩
 ·have u:=HI (show Uw l x n=l from AB (by omega));go_enter func126,ntmps126
  go_wp2_with (go_at_call 123;refine (q56 _ _ _ [l] _ (Dp 48 h) (by rw[Qbc,y.out];omega)).mono ?_;rintro e M ⟨E,K,c2,rfl,f,m⟩)
  go_ret;rw[Qa6] at f;rw[u.out];exact⟨_,_,_,rfl,f.less (by simp),(Qi).trans (m.mono (by simp))⟩
def Qq (l:LU):Nat:=l.foldl (λa b=>256*a+b.toNat) 0
theorem qg6 (l:LU)(b:UInt8):Qq (l++[b])=256*Qq l+b.toNat:=by simp[Qq]
theorem q3m (l:LU):Qq l<256 ^ l.length:=by
 suffices h:∀n (l:LU),l.length=n->Qq l<256 ^ n from h _ l rfl
 intro n;induction n with
 |zero=>intro l m;rw[BF m];simp[Qq]
 |succ n ih=>
  intro l m;have f:l≠[]:=by intro e;rw[e] at m;simp at m
  have hd:=List.dropLast_concat_getLast f;have h1:=ih l.dropLast (by rw[List.length_dropLast];omega);have h2:=(l.getLast f).toNat_lt;rw[<-hd,qg6,Nat.pow_succ];omega
theorem qg7 (l:LU)(k:Nat)(h:k<l.length):Qq (l.take (k+1))=256*Qq (l.take k)+Vd l k:=by
 rw[qg1 l k h,qg6];have:=q91 l k;simp;omega
theorem q7u (A:OA)(n c:Nat)(l:LU)(w:WD)(h:Sl w A n c l)(y:n<=7) :
  Calls prog 186 #[.slice A n c] w λe w'=>e=.returned (.int .i64 (Qq l))/\w=w':=by
 have E:=h.cap;have hm:=h.max;unfold maxLen at hm;go_enter func186,ntmps186
 go_wp2;go_loop [3,8] (λx i=>∃k:Nat,k<=n/\i=.int .i64 k/\x=.int .i64 (Qq (l.take k))) (λ_ i=>n-(intOf i).toNat)
 case atStart=>exact⟨0,AW _,rfl,rfl⟩
 case round=>
  obtain⟨k,F,rfl,rfl⟩:=hrel;by_cases m:k<n
  ·obtain⟨u,rfl,D,f⟩:=h.cell m;have q:=q91 l k;have p:Qq (l.take k)<36028797018963968:=by
    have h1:=q3m (l.take k);have h2:(256:Nat) ^ (l.take k).length<=256 ^ 6:=Nat.pow_le_pow_right (by omega) (by rw[AR];omega);omega
   go_wp2;refine⟨⟨k+1,by omega,by go_num,?_⟩,by simp[intOf];omega⟩;have G:=h.len;rw[qg7 _ _ (by omega),<-qza _ _ p (by omega)]
  ·go_wp2;go_ret;exact⟨qa6 (by rw[AN (by have:=h.len;omega)]),rfl⟩
theorem qni (l:LU)(a:Nat):l.foldl (λa b=>256*a+b.toNat) a=a*256 ^ l.length+Qq l:=by
 induction l generalizing a with
 |nil=>simp[Qq]
 |cons b l ih=>
  unfold Qq;rw[List.foldl_cons,List.foldl_cons,ih,ih (256*0+b.toNat),AX,Nat.pow_succ,Nat.add_mul,Nat.add_mul];have e:256*a*256 ^ l.length=a*(256 ^ l.length*256):=by rw[Nat.mul_comm 256 a,Nat.mul_assoc,Nat.mul_comm 256]
  omega
theorem q7v (b:UInt8)(l:LU):Qq (b::l)=b.toNat*256 ^ l.length+Qq l:=by
 have h:=qni l (256*0+b.toNat);have e:(256*0+b.toNat)*256 ^ l.length=b.toNat*256 ^ l.length:=by rw[Nat.mul_zero,AT]
 rw[e] at h;exact h
theorem qux (u k:Nat):(low (u:Int) k).toNat=u / 256 ^ k % 256:=by
 unfold low;have e:((u:Int) / 2 ^ (8*k) % 256)=((u / 256 ^ k % 256:Nat):Int):=by
  rw[show (256:Nat) ^ k=2 ^ (8*k) by rw[Nat.pow_mul],Int.natCast_emod,Int.natCast_ediv,Int.natCast_pow];rfl
 rw[e,AJ,UInt8.toNat_ofNat'];omega
theorem qaa (u k:Nat):Qq (Qx (u:Int) k)=u % 256 ^ k:=by
 induction k with
 |zero=>simp[Qx,Qq,Nat.mod_one]
 |succ k ih=>
  rw[Qx,q7v,J8,ih,qux,Nat.mod_pow_succ,Nat.mul_comm];omega
structure Kd where
 obj:Int
 kind:Int
 off:Int
def Kd.may (k:Kd):Bool:=decide ((0<=k.obj/\k.obj<=2147483647)/\(0<=k.kind/\k.kind<=255)/\0<=k.off/\k.off<=2147483647)
def Kd.less (a b:Kd):Bool:=if a.obj=b.obj then if a.kind=b.kind then decide (a.off<b.off) else decide (a.kind<b.kind) else decide (a.obj<b.obj)
def Kd.bytes (k:Kd):LU:=Qx k.obj 4++(Qx k.kind 1++Qx k.off 4)
theorem Kd.Yj (k:Kd):k.bytes.length=9:=by simp[Kd.bytes,J8]
theorem q57 (x:Int)(m:Nat)(h0:0<=x)(h1:x<(256 ^ m:Nat)):(Qq (Qx x m):Int)=x:=by
 obtain⟨u,rfl⟩:=Int.eq_ofNat_of_zero_le h0;rw[qaa,Nat.mod_eq_of_lt (by omega)]
theorem Kd.total (a b:Kd):(a.less b=true/\b.less a=false/\a≠b)\/(a.less b=false/\b.less a=true/\a≠b)\/(a.less b=false/\b.less a=false/\a=b):=by
 obtain⟨o,k,f⟩:=a;obtain⟨u,q,p⟩:=b;unfold Kd.less;simp only[Kd.mk.injEq,ne_eq];by_cases h1:o=u
 ·by_cases h2:k=q
  ·subst h1;subst h2;by_cases m:f=p
   ·subst m;simp
   ·rcases Int.lt_or_gt_of_ne m with h|h
    ·left;simp[m,h];omega
    ·right;left;simp[m,h];omega
  ·subst h1;rcases Int.lt_or_gt_of_ne h2 with h|h
   ·left;simp[h2,Ne.symm h2,h];omega
   ·right;left;simp[h2,Ne.symm h2,h];omega
 ·rcases Int.lt_or_gt_of_ne h1 with h|h
  ·left;simp[h1,Ne.symm h1,h];omega
  ·right;left;simp[h1,Ne.symm h1,h];omega
theorem Kd.Xl (a b:Kd):a.less b=true↔a.obj<b.obj\/(a.obj=b.obj/\(a.kind<b.kind\/(a.kind=b.kind/\a.off<b.off))):=by
 unfold Kd.less;by_cases h1:a.obj=b.obj
 ·by_cases h2:a.kind=b.kind
  ·rw[AA h1,AA h2,decide_eq_true_iff];omega
  ·rw[AA h1,AB h2,decide_eq_true_iff];omega
 ·rw[AB h1,decide_eq_true_iff];omega
def Kd.same (a b:Kd):Bool:=decide (a.obj=b.obj/\a.kind=b.kind/\a.off=b.off)
theorem Kd.same_iff (a b:Kd):a.same b=true↔a.obj=b.obj/\a.kind=b.kind/\a.off=b.off:=decide_eq_true_iff
theorem Kd.Cc (k:Kd):k.may=true↔(0<=k.obj/\k.obj<=2147483647)/\(0<=k.kind/\k.kind<=255)/\0<=k.off/\k.off<=2147483647:=decide_eq_true_iff
theorem Kd.trans (a b c:Kd)(h1:a.less b=true)(h2:b.less c=true):a.less c=true:=by
 rw[Kd.Xl] at *;omega
def Tab (w:WD):Prop:=1<w.1.size/\∀k:Nat,k<16->w.cell? ⟨1,k,none⟩=some (.int .u32 (Iq k:Nat))
theorem Tab.below {w w':WD}{B:Nat}(h:Tab w)(hb:Below B w w')(hB:1<B):Tab w':=
 ⟨by have:=hb.size;have:=h.1;omega,λk f=>(hb.cell (p:=⟨1,k,none⟩) hB).trans (h.2 k f)⟩
theorem qcp (r:Nat)(y:r<4294967296)(w:WD)(h:Tab w) :
  Calls prog 227 #[.int .u32 (r:Nat)] w λe w'=>e=.returned (.int .u32 (Iq r:Nat))/\w=w':=by
 obtain⟨m,hm⟩:∃m,m=r % 16:=⟨_,rfl⟩;have f:m<16:=by omega
 have p:=h.2 m f;have q:bits .and .u32 (r:Int) 15=(m:Int):=by
  rw[show (15:Int)=((15:Nat):Int) from rfl,u32_and_nat r 15 y (by omega),nat_mask4,hm]
 have u:=HI hm;clear hm;go_enter func227,ntmps227
 go_wp2;go_ret;have D:bits .xor .u32 ((r:Int) / 16) (Iq m:Nat)=(Iq r:Nat):=by
  rw[show (r:Int) / 16=((r / 16:Nat):Int) by omega,u32_xor_nat _ _ (by omega) (qks (by omega)),u.out,<-qur r]
 exact⟨qa6 D,rfl⟩
theorem quy (r:Nat)(l:LU)(k:Nat)(h:k<l.length):Yu r (l.take (k+1))=Iq (Iq (Yu r (l.take k) ^^^ Vd l k)):=by
 rw[qg1 l k h,qis];have:=q91 l k;unfold by8 st8;rw[show (UInt8.ofNat (Vd l k)).toNat=Vd l k by simp;omega]
theorem quz (s:Nat)(U:s<4294967296)(A:OA)(n c:Nat)(l:LU)(w:WD)(p:Sl w A n c l)(V:Tab w) :
  Calls prog 198 #[.int .u32 (s:Nat),.slice A n c] w λe w'=>e=.returned (.int .u32 (more s l:Nat))/\w=w':=by
 have hm:=p.max;have hc:=p.cap;unfold maxLen at hm;have R:=HI p.len;obtain⟨q,M⟩:∃q,q=4294967295-s:=⟨_,rfl⟩;have T:bits .xor .u32 IntKind.u32.max (s:Int)=(q:Int):=by
  rw[show IntKind.u32.max=((4294967295:Nat):Int) from rfl,u32_xor_nat _ s (by omega) U,Nat.xor_comm,qku U,M]
 have E:q<4294967296:=by omega
 have W:=HI M;clear M;go_enter func198,ntmps198
 go_wp2;go_loop [5,12] (λr i=>∃k:Nat,k<=n/\i=.int .i64 k/\r=.int .u32 (Yu q (l.take k):Nat)) (λ_ i=>n-(intOf i).toNat)
 case atStart=>exact⟨0,AW _,rfl,rfl⟩
 case round=>
  obtain⟨k,hk,rfl,rfl⟩:=hrel;have F:=qpt (l.take k) E;by_cases D:k<n
  ·obtain⟨ad,rfl,hb,K⟩:=p.cell D;have Z:=q91 l k;have J:=HI (quy q l k (by rw[R.out];exact D));generalize Yu q (l.take k)=x at F J;have G:bits .xor .u32 (x:Int) (Vd l k:Int)=((x ^^^ Vd l k:Nat):Int):=u32_xor_nat _ _ F (by omega);have O:x ^^^ Vd l k<4294967296:=qps F (by omega);generalize x ^^^ Vd l k=y at G O J;have I:=qks O;go_wp2_with fail
   refine (qcp y O w V).mono ?_;rintro e w' ⟨rfl,rfl⟩;obtain⟨Q,m⟩:∃Q,Q=Iq y:=⟨_,rfl⟩;rw[<-m] at I J ⊢;have Y:=HI m;clear m;go_wp2_with fail
   refine (qcp Q I w V).mono ?_;rintro e w' ⟨rfl,rfl⟩;go_wp2;exact⟨⟨k+1,by omega,by go_num,by rw[J.out]⟩,by simp[intOf];omega⟩
  ·obtain rfl:k=n:=by omega
   have X:=HI (show l.take k=l from AN (by rw[R.out];omega));have f:bits .xor .u32 IntKind.u32.max (Yu q (l.take k):Int)=((4294967295-Yu q (l.take k):Nat):Int):=by
    rw[show IntKind.u32.max=((4294967295:Nat):Int) from rfl,u32_xor_nat _ _ (by omega) F,Nat.xor_comm,qku F]
   have u:=HI f;clear f;go_wp2;go_ret;exact⟨qa6 (by rw[u.out,X.out,W.out];rfl),rfl⟩
theorem qzb (A:OA)(n c:Nat)(l:LU)(w:WD)(h:Sl w A n c l)(f:Tab w) :
  Calls prog 180 #[.slice A n c] w λe w'=>e=.returned (.int .u32 (more 0 l:Nat))/\w=w':=by
 go_enter func180,ntmps180
 go_wp2_with (go_at_call 198;refine (quz 0 (by omega) A n c l w h f).mono ?_;rintro e w' ⟨rfl,rfl⟩)
 go_ret;exact⟨rfl,rfl⟩
theorem Sl.one {w:WD}{A:OA}{n c:Nat}{l:LU}(h:Sl w A n c l){k:Nat}(hk:k<n):∃f,A=some f/\Sl w (some (f.add k)) 1 (c-k) [UInt8.ofNat (Vd l k)]:=by
 obtain⟨f,rfl,m,q⟩:=h.cell hk;refine⟨f,rfl,⟨rfl,by have:=h.cap;omega,by have:=h.max;omega,λj u p=>?_⟩⟩;rcases j with _|j
 ·refine⟨_,rfl,by rw[q14];exact m,?_⟩;rw[qkx,Nat.add_zero,q];have m:=q91 l k;have e:u=bv (UInt8.ofNat (Vd l k)):=by simpa using p.symm
  rw[e];unfold bv;rw[UInt8.toNat_ofNat',Nat.mod_eq_of_lt (by omega)]
 ·simp at p
section
open Go.ChangeShapes Go.WideShapes Go.ChangeAt
theorem qg8 {H:Type}{enc:TypeId × Value->H}{P:Program}{W:WD}{base:Nat}{Q:Nat->Bool}{held:Bool}{fuel:Nat}{t e:TypeId}{n:Nat}{k:IntKind}{q:LV}{zs:LI}{p:List MemPlace}
  (M:P.underlying t=some (.array n e)) (K:P.underlying e=some (.int k)) (J:P.cellsOf e=1) (h:DataW.trod enc P W base Q held fuel t q=some (.agg (zs.map λz=>.lit (.int k z)),p)) (i:Nat) (hi:i<n):q[i]?=some (.int k (zs.getD i 0)):=by
 obtain⟨xs,m,rfl,E,_,hn,u⟩:=DataW.trod_array M h;have h1:=u i hi;rw[J,Nat.mul_one] at h1;have f:i<xs.length:=by omega
 rw[AC f] at h1;obtain⟨z,F,G,_⟩:=DataW.trod_int K h1;simp only[Prod.mk.injEq,DataW.agg.injEq] at E;have h2:=congrArg (λl=>l[i]?) E.1;simp only[BA] at h2;rw[AC f,G] at h2;have O:zs[i]?=some z:=by
  cases D:zs[i]? with
  |none=>rw[D] at h2;cases h2
  |some y=>rw[D] at h2;simp only[Option.map_some,Option.some.injEq] at h2;cases h2;rfl
 have I:q[i]?=some (.int k z):=by
  have:=congrArg (λl=>l[0]?) F;simpa [List.getElem?_take,List.getElem?_drop] using this
 rw[I,AG,O];rfl
theorem qpv {P:Program}{W:WD}{name:String}{g:Nat}{t e:TypeId}{n:Nat}{k:IntKind}{zs:LI}(y:P.globalNamed name=some g)(p:(P.globals[g]?).map (·.type)=some t)
  (G:P.underlying t=some (.array n e)) (F:P.underlying e=some (.int k)) (E:P.cellsOf e=1) (h:laidMet P [(name,.agg (zs.map λz=>.lit (.int k z)))] W) (i:Nat) (hi:i<n):W.cell? ⟨g,i,none⟩=some (.int k (zs.getD i 0)):=by
 obtain⟨M,⟨J,t0,D,I,K,O,m,q,u,f,_,_⟩,_,_⟩:=h;obtain rfl:=OI (y.symm.trans m);obtain rfl:=OI (p.symm.trans q);rw[World.var?_cell y u i];have:=qg8 G F E f i hi;simpa using this
end
section
open Go.ChangeShapes Go.WideShapes Go.ChangeAt
theorem Pg:ownKnob prog.godebug=none:=by kernel_rfl
theorem Qbj:laidOutB prog=true:=by kernel_rfl
abbrev LAID:List (String × DataW Unit):=[("cambium/sum.shifted",Rows.laid_cambium_sum_shifted)]
theorem ql1 (os:Os)(f:Array Value):laidMetH prog LAID ((World.doorLaid prog 400 os).forCall (λ_ _=>0) ⟨#[],f,[]⟩).memory:=
 laidMetH_of_parts3 (fuel:=8) (laidMet_of_run' 8 (by kernel_rfl) (by kernel_rfl)) (by kernel_rfl) (by kernel_rfl)
theorem ql2 {W:WD}(h:laidMetH prog LAID W):Tab W:=by
 rw[MakeChecks.laidMetH_plain _ _ _ (by kernel_rfl)] at h;have m:∀k:Nat,k<16->W.cell? ⟨1,k,none⟩=some (.int .u32 (([0,274646895,549293790,820201905,1098587580,1361435347,1640403810,1905808397,2197175160,2460548119,2722870694,2987750089,3280807620,3553878443,3811616794,4084100981]:LI).getD k 0)):=λk f=>
  qpv (zs:=[0,274646895,549293790,820201905,1098587580,1361435347,1640403810,1905808397,2197175160,2460548119,2722870694,2987750089,3280807620,3553878443,3811616794,4084100981]) (g:=1) (by kernel_rfl) (by kernel_rfl) underlying305 underlying179 (by kernel_rfl) h k f
 have p:∀k:Nat,k<16->([0,274646895,549293790,820201905,1098587580,1361435347,1640403810,1905808397,2197175160,2460548119,2722870694,2987750089,3280807620,3553878443,3811616794,4084100981]:LI).getD k 0=(Iq k:Nat):=by decide +kernel
 exact⟨by have:=World.block_lt_of_cell? W _ (m 0 (by omega));exact this,λk f=>by rw[m k f,p k f]⟩
end
