/- Words for slices whose cells are read, over the kit's library; nothing here speaks of one  -/
import Derived.Test.YthkfkhejjmhomaaGreatDoorCrc
import Derived.WalkKit
import Derived.Deep.Draws
import Derived.Deep.AppendLies
import Derived.Maps.AppendAt
import Derived.Lib.ConvBytes
import Derived.ProofKit
import Derived.OpenShut
import Derived.Carry
import Derived.ChangeSame
import Derived.SizedLaws
import Derived.SliceStrings
import Derived.ChangeMaps5
import Derived.Maps.RangeRun
import Derived.Maps.Keyed
import Derived.Test.YthkfkhejjmhomaaGreatDoorRows
import Derived.Laws.BitsAll
import Derived.LaidMore
import Derived.LaidHandle
import Derived.MakeChecks
import Derived.Deep.Matrix
import Derived.Stop.Joined
namespace Go.Proofs.YthkfkhejjmhomaaGreatDoor
open Go Go.RowKit Go.Proofs
set_option maxHeartbeats 400000
theorem Ib {w:World}{o:Obj}:Below w.1.size w (w.alloc o):=(Below.refl _ _).alloc (Nat.le_refl _) _
theorem Qm1 {k:IntKind}{a b:Int}(h:a=b):Ending.returned (.int k a)=.returned (.int k b):=by rw[h]
def bv (b:UInt8):Value:=.int .u8 (b.toNat:Int)
def Xy (l:List UInt8)(k:Nat):Nat:=(l.getD k 0).toNat
theorem Ub (l:List UInt8)(k:Nat):Xy l k<=255:=by have:=(l.getD k 0).toNat_lt;unfold Xy;omega
theorem Qma (l:List UInt8)(k:Nat)(h:k<l.length):l.take (k+1)=l.take k++[UInt8.ofNat (Xy l k)]:=by
 rw[List.take_succ_eq_append_getElem h];simp[Xy,List.getD,h]
theorem Y7 (a:Addr)(n:Nat):(a.add n).block=a.block:=by unfold Addr.add;split<;>rfl
theorem Ee (a:Addr)(i j:Nat):(a.add i).add j=a.add (i+j):=by
 unfold Addr.add;by_cases hi:i=0<;>by_cases d:j=0<;>simp[hi,d,Nat.add_assoc]
def Holds (w:World)(B:Nat)(A:Option Addr)(n c:Nat)(xs:List Value):Prop:=
 xs.length=n/\n<=c/\c<=maxLen/\∀(j:Nat) u,xs[j]?=some u->∃d,A=some d/\d.block<B/\w.cell? (d.add j)=some u
def Sl (w:World)(A:Option Addr)(n c:Nat)(l:List UInt8):Prop:=Holds w w.1.size A n c (l.map bv)
section
variable {w w':World}{B B' n c:Nat}{A:Option Addr}{xs:List Value}
theorem Holds.len (h:Holds w B A n c xs):xs.length=n:=h.1
theorem Holds.keep (h:Holds w B A n c xs)(hk:∀p:Addr,p.block<B->w'.cell? p=w.cell? p):Holds w' B A n c xs:=
 ⟨h.1,h.2.1,h.2.2.1,λj u m=>by
  obtain⟨f,e,d,g⟩:=h.2.2.2 j u m;exact⟨f,e,d,(hk _ (by rw[Y7];exact d)).trans g⟩⟩
theorem Holds.more (h:Holds w B A n c xs)(hB:B<=B'):Holds w B' A n c xs:=
 ⟨h.1,h.2.1,h.2.2.1,λj u g=>by
  obtain⟨d,e,m,f⟩:=h.2.2.2 j u g;exact⟨d,e,by omega,f⟩⟩
theorem Holds.below (h:Holds w B A n c xs)(hb:Below B w w'):Holds w' B A n c xs:=h.keep λ_ d=>hb.cell d
end
section
variable {w w':World}{n c:Nat}{A:Option Addr}{l:List UInt8}
theorem Sl.len (h:Sl w A n c l):l.length=n:=by simpa using h.1
theorem Sl.cap (h:Sl w A n c l):n<=c:=h.2.1
theorem Sl.max (h:Sl w A n c l):c<=maxLen:=h.2.2.1
theorem Sl.below (h:Sl w A n c l)(hb:Below w.1.size w w'):Sl w' A n c l:=(Holds.below h hb).more hb.size
theorem Sl.drew (h:Sl w A n c l):Sl w.drew A n c l:=h
theorem Sl.cell (h:Sl w A n c l){k:Nat}(hk:k<n):∃d,A=some d/\d.block<w.1.size/\w.cell? (d.add k)=some (.int .u8 (Xy l k:Int)):=by
 have f:k<l.length:=by have:=h.len;omega
 obtain⟨d,e,g,m⟩:=h.2.2.2 k (bv l[k]) (by simp[f]);exact⟨d,e,g,by rw[m];unfold Xy bv;rw[List.getD_eq_getElem?_getD,List.getElem?_eq_getElem f];rfl⟩
theorem Sl.take (h:Sl w A n c l){k:Nat}(hk:k<=n):Sl w A k c (l.take k):=by
 refine⟨by have:=h.len;simp;omega,by have:=h.cap;omega,h.max,λj u d=>h.2.2.2 j u ?_⟩;rw[List.map_take,List.getElem?_take] at d;split at d
 ·exact d
 ·cases d
theorem Sl.drop (h:Sl w A n c l){k:Nat}(hk:k<=n):Sl w (if c=k then A else A.map (·.add k)) (n-k) (c-k) (l.drop k):=by
 refine⟨by have:=h.len;simp;omega,by have:=h.cap;omega,by have:=h.max;omega,λj u d=>?_⟩;rw[List.map_drop,List.getElem?_drop] at d;obtain⟨f,rfl,g,m⟩:=h.2.2.2 _ u d;have p:k+j<n:=by
  have:=h.1;have h2:=(List.getElem?_eq_some_iff.1 d).1;omega
 rw[if_neg (by have:=h.cap;omega)];exact⟨f.add k,rfl,by rw[Y7];exact g,by rw[Ee];exact m⟩
end
structure U8 (P:Program)(t e:TypeId):Prop where
 sl:P.underlying t=some (.slice e)
 info:(P.info? e).map (λi=>(i.zero,i.size,i.bytes))=some (some (.int .u8 0),1,1)
def Own (w:World)(base:Nat)(e:TypeId)(A:Option Addr)(n c:Nat)(l:List UInt8):Prop:=w.ownsRow base e 1 (.slice A n c) n (l.map bv)
theorem Qh6 (l:List UInt8):∀u∈l.map bv,u.oneCell'=true:=by
 intro u d;obtain⟨_,_,rfl⟩:=List.mem_map.1 d;rfl
section
variable {w w':World}{base n c:Nat}{e:TypeId}{A:Option Addr}{l:List UInt8}
theorem Own.len (h:Own w base e A n c l):l.length=n:=by have:=h.1;simpa using this
theorem Own.sl (h:Own w base e A n c l):Sl w A n c l:=by
 refine⟨by have:=h.len;simpa using this,?_,?_,λj u p=>?_⟩
 ·rcases h.2 with⟨d,rfl⟩|⟨g,cap,f,d,_,_,h1,h2,_⟩
  ·omega
  ·injection d with _ _ m;omega
 ·rcases h.2 with⟨d,rfl⟩|⟨g,cap,f,d,_,_,h1,h2,_⟩
  ·injection d with _ _ m;unfold maxLen;omega
  ·injection d with _ _ m;omega
 ·rcases h.2 with⟨d,rfl⟩|⟨g,cap,f,d,D,y,h1,h2,m,z⟩
  ·have:=h.len;have h0:=(List.getElem?_eq_some_iff.1 p).1;simp at h0;omega
  ·have q:A=some ⟨g,0,none⟩:=by injection d
   subst q;exact⟨_,rfl,(Array.getElem?_eq_some_iff.1 y).1,h.cells (g:=g) rfl j u p⟩
theorem Own.block (h:Own w base e A n c l):∀d,A=some d->base<=d.block/\d.block<w.1.size:=by
 intro d f;subst f;exact h.lt d.block rfl
theorem Own.at_ {g:Nat}(h:Own w base e (some ⟨g,0,none⟩) n c l)(j:Nat)(hj:j<n):w.cell? ⟨g,j,none⟩=some (.int .u8 (Xy l j:Int))/\w.frozen? ⟨g,j,none⟩=false:=by
 have d:=h.len;refine⟨?_,World.ownsRow.frozenAt h j⟩;rw[World.ownsRow.cellAt h j (by omega),List.getElem?_map,List.getElem?_eq_getElem (by omega)];unfold Xy;rw[List.getD_eq_getElem?_getD,List.getElem?_eq_getElem (by omega)];rfl
theorem Own.Xe {g:Nat}(h:Own w base e (some ⟨g,0,none⟩) n c l)(j:Nat)(b:UInt8):Own (w.setCell ⟨g,j,none⟩ (bv b)) base e (some ⟨g,0,none⟩) n c (l.set j b):=by
 unfold Own;rw[List.map_set];exact (World.ownsRow.stored h j (bv b)).1
theorem Own.less {b:Nat}(h:Own w base e A n c l)(hb:b<=base):Own w b e A n c l:=by
 refine⟨h.1,?_⟩;rcases h.2 with f|⟨g,cap,d,f,h1,r⟩
 ·exact .inl f
 ·exact .inr ⟨g,cap,d,f,Nat.le_trans hb h1,r⟩
theorem Own.drew (h:Own w base e A n c l):Own w.drew base e A n c l:=h
theorem Own.below (h:Own w base e A n c l)(hb:Below w.1.size w w'):Own w' base e A n c l:=by
 refine⟨h.1,?_⟩;rcases h.2 with f|⟨g,cap,d,f,h1,m,r⟩
 ·exact .inl f
 ·exact .inr ⟨g,cap,d,f,h1,(hb.block g (Array.getElem?_eq_some_iff.1 m).1).trans m,r⟩
end
section
variable {P:Program}{t e:TypeId}(w:World)
theorem Qwb (n:Nat):(madeCells (Value.int .u8 0).cells (n*1)).toList=(List.replicate n (0:UInt8)).map bv:=by
 rw[show (Value.int .u8 0).cells=#[.int .u8 0] from rfl,Nat.mul_one,toList_madeCells_one];simp[bv]
theorem Qmh (T:U8 P t e){f:Array Oper}{d:List Oper}{o:Oper}{a:Act}{Q:Exit->Act->World->Prop}
  (D:o.guard=none) (l c:Operand) (g:o.op=Op.makeSlice t l c) (u kc:IntKind) (n:Nat) (E:a.eval l=.int u (n:Int)) (z:a.eval c=.int kc (n:Int)) (F:n<=281474976710656)
  (y:∀w',Own w' w.1.size e (some ⟨w.1.size,0,none⟩) n n (List.replicate n 0)->Below w.1.size w w'->wpList P f Q d (a.put o.dst (.slice (some ⟨w.1.size,0,none⟩) n n)) w') :
  wpList P f Q (o::d) a w:=by
 obtain⟨i,hi,m,p,q⟩:=info_parts T.info;refine wpList_make_full w D l c t g w.1.size e i _ 1 T.sl hi m p u kc _ _ n E z rfl rfl (by rw[q];omega) (by unfold maxLen;omega) (Nat.le_refl _) λw' h1 h2=>?_
 refine y w' ?_ ((Below.refl _ _).grown h2 (Nat.le_refl _) (by simp));unfold Own;rw[<-Qwb];exact h1
theorem Qmi (T:U8 P t e){f:Array Oper}{d:List Oper}{o:Oper}{a:Act}{Q:Exit->Act->World->Prop}
  (D:o.guard=none) (l c:Operand) (g:o.op=Op.makeSlice t l c) (u kc:IntKind) (n:Nat) (E:a.eval l=.int u 0) (z:a.eval c=.int kc (n:Int)) (F:n<=281474976710656)
  (y:∀w',Own w' w.1.size e (some ⟨w.1.size,0,none⟩) 0 n []->Below w.1.size w w'->wpList P f Q d (a.put o.dst (.slice (some ⟨w.1.size,0,none⟩) 0 n)) w') :
  wpList P f Q (o::d) a w:=by
 obtain⟨i,hi,m,p,q⟩:=info_parts T.info;refine wpList_make_own w D l c t g w.1.size e i _ 1 T.sl hi m p u kc _ n E z rfl (by rw[q];omega) (by unfold maxLen;omega) (Nat.le_refl _) λw' h1 h2=>?_
 exact y w' h1 ((Below.refl _ _).grown h2 (Nat.le_refl _) (by simp))
theorem Qd9 (T:U8 P t e)(ty:TypeId)(base:Nat)(A:Option Addr)(n c:Nat)(l:List UInt8)(f:Own w base e A n c l)
  (B:Option Addr) (m d:Nat) (y:List UInt8) (G:Sl w B m d y) (Y:n+m<=140737488355328) (p:base<=w.1.size) :
  ∃z D w',(Builtin.append_ #[t,t] ty #[.slice A n c,.slice B m d]).run P w=.ok (.slice z (n+m) D) w'/\Own w' base e z (n+m) D (l++y)/\Below base w w'/\
   w.grownBy w' (Value.ownBlock (.slice A n c)):=by
 obtain⟨i,hi,O,Q,R⟩:=info_parts T.info;have fin:∀F w',(Builtin.append_ #[t,t] ty #[.slice A n c,.slice B m d]).run P w=.ok F w'->w'.ownsRow base e 1 F (n+m) (l.map bv++y.map bv)->
   w.grownBy w' (Value.ownBlock (.slice A n c))->∃z D w',(Builtin.append_ #[t,t] ty #[.slice A n c,.slice B m d]).run P w=.ok (.slice z (n+m) D) w'/\Own w' base e z (n+m) D (l++y)/\Below base w w'/\
   w.grownBy w' (Value.ownBlock (.slice A n c)):=by
  intro F w' h1 h2 E;have U:Below base w w':=(Below.refl _ _).grown E p (λk X=>(f.lt k X).1);rw[<-List.map_append] at h2;rcases h2.2 with⟨rfl,h0⟩|⟨g,cap,J,rfl,_⟩
  ·exact⟨none,0,w',by rw[h1,h0],by unfold Own;rw[h0] at h2 ⊢;exact h2,U,E⟩
  ·exact⟨_,_,w',h1,h2,U,E⟩
 rcases B with _|I
 ·have hm:m=0:=by
   rcases Nat.eq_zero_or_pos m with h0|h0
   ·exact h0
   ·obtain⟨I,h,_⟩:=G.cell h0
    cases h
  subst hm;have hn:y=[]:=List.eq_nil_of_length_eq_zero G.len;subst hn;refine fin (.slice A n c) w ?_ (by rw[Nat.add_zero,List.map_nil,List.append_nil];exact f) (World.grownBy.refl w _);rcases f.2 with⟨M,rfl⟩|⟨g,cap,J,M,_,_,K,_⟩
  ·rw[M];simp[Builtin.append_,run_underlying T.sl,sizeOf,typeInfo,hi,Builtin.lenOf,Builtin.firstCells]
  ·rw[M];simp[Builtin.append_,run_underlying T.sl,sizeOf,typeInfo,hi,Builtin.lenOf,Builtin.firstCells,K,storeCells]
 ·have q:∀j u,(y.map bv)[j]?=some u->w.cell? (I.add j)=some u:=by
   intro j u Z;obtain⟨V,h,_,W⟩:=G.2.2.2 j u Z;injection h with h;subst h;exact W
  obtain⟨F,w',h1,h2,E,_,_⟩:=run_append_own_at (P:=P) w base t ty e i _ 1 1 T.sl hi O Q R rfl (by omega) _ n _ f I m d (y.map bv) (by have:=G.len;simpa using this) q (Qh6 _) (by unfold maxLen;omega) (by omega) p;exact fin F w' h1 h2 E
theorem Qhk (T:U8 P t e){u:Array Oper}{f:List Oper}{o:Oper}{a:Act}{Q:Exit->Act->World->Prop}(D:o.guard=none)(s x:Operand)
  (J:o.op=.call { callee:=.builtin .append,args:=#[s,x],argTypes:=#[t,t] })
  (base:Nat) (A:Option Addr) (n c:Nat) (l:List UInt8) (O:a.eval s=.slice A n c) (p:Own w base e A n c l)
  (B:Option Addr) (m d:Nat) (F:List UInt8) (R:a.eval x=.slice B m d) (M:Sl w B m d F) (E:n+m<=140737488355328) (g:base<=w.1.size)
  (h:∀y z w',Own w' base e y (n+m) z (l++F)->Below base w w'->wpList P u Q f (a.put o.dst (.slice y (n+m) z)) w'):wpList P u Q (o::f) a w:=
 wpList_plain D λK I=>by
  obtain⟨y,z,w',q,h2,G,_⟩:=Qd9 (P:=P) w T o.type base A n c l p B m d F M E g;unfold Oper.wp execOp;simp only[J,resolve,invoke,builtin,Sem.run_bind,Sem.run_pure,Result.andThen_ok,List.map_toArray,List.map_cons,List.map_nil,O,R,q];exact I _ _ (h y z w' h2 G)
end
def nth (ls:List (List UInt8))(j:Nat):List UInt8:=ls.getD j []
def Parts (w:World)(A:Option Addr)(k c:Nat)(ls:List (List UInt8)):Prop:=
 ls.length=k/\k<=c/\c<=maxLen/\∀(j:Nat) l,ls[j]?=some l->∃f B n d,A=some f/\f.block<w.1.size/\w.cell? (f.add j)=some (.slice B n d)/\Sl w B n d l
section
variable {w w':World}{k c:Nat}{A:Option Addr}{ls:List (List UInt8)}
theorem Parts.len (h:Parts w A k c ls):ls.length=k:=h.1
theorem Parts.below (h:Parts w A k c ls)(hb:Below w.1.size w w'):Parts w' A k c ls:=
 ⟨h.1,h.2.1,h.2.2.1,λj l p=>by
  obtain⟨g,B,n,d,e,f,m,q⟩:=h.2.2.2 j l p;exact⟨g,B,n,d,e,Nat.lt_of_lt_of_le f hb.size,(hb.cell (by rw[Y7];exact f)).trans m,q.below hb⟩⟩
theorem Parts.cell (h:Parts w A k c ls){j:Nat}(hj:j<k):∃f B n d,A=some f/\f.block<w.1.size/\w.cell? (f.add j)=some (.slice B n d)/\Sl w B n d (nth ls j):=by
 have m:j<ls.length:=by have:=h.1;omega
 have g:ls[j]?=some (nth ls j):=by simp[nth,List.getD,m]
 exact h.2.2.2 j _ g
end
def cat (ls:List (List UInt8))(j:Nat):List UInt8:=(ls.take j).flatten
def tot (ls:List (List UInt8))(j:Nat):Nat:=(cat ls j).length
theorem Qxx (ls:List (List UInt8)):cat ls 0=[]:=by simp[cat]
theorem Zbf (ls:List (List UInt8)):tot ls 0=0:=by simp[tot,cat]
theorem Qnv (ls:List (List UInt8))(k:Nat)(h:k<ls.length):cat ls (k+1)=cat ls k++nth ls k:=by
 unfold cat nth;rw[List.take_succ_eq_append_getElem h,List.flatten_append];simp[List.getD,h]
theorem Qqi (ls:List (List UInt8))(k:Nat)(h:k<ls.length):tot ls (k+1)=tot ls k+(nth ls k).length:=by
 unfold tot;rw[Qnv ls k h,List.length_append]
theorem Zbe (ls:List (List UInt8))(k m:Nat)(h:k<=m):tot ls k<=tot ls m:=by
 unfold tot cat;have e:(ls.take m).flatten=(ls.take k).flatten++((ls.take m).drop k).flatten:=by
  rw[<-List.flatten_append];congr 1
  have h2:=List.take_append_drop k (ls.take m);rw[List.take_take,Nat.min_eq_left h] at h2;exact h2.symm
 rw[e,List.length_append];omega
theorem Sl.alloc {w:World}{A:Option Addr}{n c:Nat}{l:List UInt8}(h:Sl w A n c l)(o:Obj):Sl (w.alloc o) A n c l:=h.below ((Below.refl _ _).alloc (Nat.le_refl _) o)
theorem Qcb (w:World)(d:Array Value)(t:TypeId)(j:Nat):(w.alloc (.cells d t)).cell? ((⟨w.1.size,0,none⟩:Addr).add j)=d[j]?:=by
 rw[Addr.add_lit,Nat.zero_add];exact cell_of_row (w.alloc (.cells d t)) w.1.size j d t (0,0) (heap_alloc_new w _)
theorem Qji {w:World}(t:TypeId){B:Option Addr}{n d:Nat}{l:List UInt8}(h:Sl w B n d l):Parts (w.alloc (.cells #[.slice B n d] t)) (some ⟨w.1.size,0,none⟩) 1 1 [l]:=by
 refine⟨rfl,Nat.le_refl _,by unfold maxLen;omega,λj g f=>?_⟩;rcases j with _|j
 ·obtain rfl:l=g:=by simpa using f
  exact⟨_,B,n,d,rfl,by simp,Qcb w _ t 0,h.alloc _⟩
 ·simp at f
theorem Zex {w:World}(t:TypeId){B f:Option Addr}{n d q g:Nat}{l p:List UInt8}(h:Sl w B n d l)(h2:Sl w f q g p) :
  Parts (w.alloc (.cells #[.slice B n d,.slice f q g] t)) (some ⟨w.1.size,0,none⟩) 2 2 [l,p]:=by
 refine⟨rfl,Nat.le_refl _,by unfold maxLen;omega,λj u m=>?_⟩;rcases j with _|_|j
 ·obtain rfl:l=u:=by simpa using m
  exact⟨_,B,n,d,rfl,by simp,Qcb w _ t 0,h.alloc _⟩
 ·obtain rfl:p=u:=by simpa using m
  exact⟨_,f,q,g,rfl,by simp,Qcb w _ t 1,h2.alloc _⟩
 ·simp at m
theorem Zey {w:World}(t:TypeId){B g m:Option Addr}{n d D p E q:Nat}{l y z:List UInt8}(h:Sl w B n d l)(h2:Sl w g D p y)(F:Sl w m E q z) :
  Parts (w.alloc (.cells #[.slice B n d,.slice g D p,.slice m E q] t)) (some ⟨w.1.size,0,none⟩) 3 3 [l,y,z]:=by
 refine⟨rfl,Nat.le_refl _,by unfold maxLen;omega,λj u f=>?_⟩;rcases j with _|_|_|j
 ·obtain rfl:l=u:=by simpa using f
  exact⟨_,B,n,d,rfl,by simp,Qcb w _ t 0,h.alloc _⟩
 ·obtain rfl:y=u:=by simpa using f
  exact⟨_,g,D,p,rfl,by simp,Qcb w _ t 1,h2.alloc _⟩
 ·obtain rfl:z=u:=by simpa using f
  exact⟨_,m,E,q,rfl,by simp,Qcb w _ t 2,F.alloc _⟩
 ·simp at f
theorem Zb4 (l:List UInt8):cat [l] 1=l:=by simp[cat]
theorem Zf8 (l d:List UInt8):cat [l,d] 2=l++d:=by simp[cat]
theorem Zf9 (l d f:List UInt8):cat [l,d,f] 3=l++(d++f):=by simp[cat]
theorem Zdm (l:List UInt8):tot [l] 1=l.length:=by simp[tot,cat]
theorem Zgf (l d:List UInt8):tot [l,d] 2=l.length+d.length:=by simp[tot,cat]
theorem Zgg (l d f:List UInt8):tot [l,d,f] 3=l.length+(d.length+f.length):=by simp[tot,cat]
theorem below_drewN {B:Nat}{a w:World}(h:Below B a w)(n:Nat):Below B a (w.drewN n):=⟨h.os,h.tape,h.output,h.size,h.block⟩
theorem foldl_push (l:List UInt8)(b:ByteArray):(l.map (λx:UInt8=>(x.toNat:Int))).foldl (λr n=>r.push (UInt8.ofNat n.toNat)) b=⟨b.data++l.toArray⟩:=by
 induction l generalizing b with
 |nil=>simp
 |cons x l ih=>
  rw[List.map_cons,List.foldl_cons,ih];have e:UInt8.ofNat ((x.toNat:Int)).toNat=x:=by simp
  rw[e]
  cases b;simp[ByteArray.push]
theorem Qhh {P:Program}(src d e:TypeId)(T:U8 P src e)(q:P.underlying e=some (.int .u8))(hd:P.underlying d=some .string){w:World}{A:Option Addr}{n c:Nat}{l:List UInt8}(h:Sl w A n c l) :
  (convert src d (.slice A n c)).run P w=.ok (.string ⟨l.toArray⟩) w:=by
 rw[run_convert_bytes_string w src d e A n c T.sl q hd];rcases A with _|a
 ·have y:l=[]:=by
   rcases l with _|⟨x,l⟩
   ·rfl
   ·obtain⟨m,f,_⟩:=h.2.2.2 0 (bv x) rfl
    cases f
  subst y;simp[Conv.bytesToString,Sem.run_pure];rfl
 ·have g:∀(j:Nat) v,(l.map bv)[j]?=some v->w.cell? (a.add j)=some v:=λj u z=>by
   obtain⟨m,f,_,g⟩:=h.2.2.2 j u z;injection f with f;subst f;exact g
  have h2:=run_loadCells_list (P:=P) w a (l.map bv) g;rw[List.length_map,h.len] at h2;have p:l.map bv=(l.map (λx:UInt8=>(x.toNat:Int))).map (Value.int .u8):=by simp[bv,Function.comp_def]
  rw[p] at h2;rw[run_bytesToString w a n c _ h2,foldl_push];simp[ByteArray.empty,ByteArray.emptyWithCapacity];rfl
theorem Qjy (w:World)(e:TypeId)(s:ByteArray)(h:s.size<=maxLen):Sl (Lib.bytesWorld w e s) (some ⟨w.1.size,0,none⟩) s.size (grownCap w s.size 0 e) s.data.toList:=by
 refine⟨by simp,grownCap_ge _ _ _ _,grownCap_le_maxLen _ _ _ _ h,λj u f=>⟨_,rfl,by rw[Lib.bytesWorld_size];simp,?_⟩⟩;have g:j<s.size:=by have:=(List.getElem?_eq_some_iff.1 f).1;simpa using this
 rw[Addr.add_lit,Nat.zero_add,Lib.bytesWorld_cell w e s j g];have d:j<s.data.toList.length:=by simpa using g
 rw[List.getElem?_map,List.getElem?_eq_getElem d] at f;rw[<-f,List.getD_eq_getElem?_getD,List.getElem?_eq_getElem d];rfl
theorem Qd7 (w:World)(e:TypeId)(s:ByteArray):Below w.1.size w (Lib.bytesWorld w e s):=
 ⟨rfl,rfl,rfl,by rw[Lib.bytesWorld_size];omega,λk d=>Lib.bytesWorld_at_old w e s k d⟩
theorem Sm (w:World):Sl w none 0 0 []:=⟨rfl,Nat.le_refl _,Nat.zero_le _,λj u d=>by simp at d⟩
section
variable {P:Program}{t e:TypeId}(w:World)
end
def txt (ss:List ByteArray)(k:Nat):ByteArray:=ss.getD k ByteArray.empty
def Zq (w:World)(A:Option Addr)(n c:Nat)(ss:List ByteArray):Prop:=
 Holds w w.1.size A n c (ss.map Value.string)/\∀s∈ss,s.size<=maxLen
section
variable {w w':World}{n c:Nat}{A:Option Addr}{ss:List ByteArray}
theorem Zq.len (h:Zq w A n c ss):ss.length=n:=by simpa using h.1.1
theorem Zq.cap (h:Zq w A n c ss):n<=c:=h.1.2.1
theorem Zq.max (h:Zq w A n c ss):c<=maxLen:=h.1.2.2.1
theorem Zq.cell (h:Zq w A n c ss){k:Nat}(hk:k<n):∃d,A=some d/\d.block<w.1.size/\w.cell? (d.add k)=some (.string (txt ss k))/\(txt ss k).size<=maxLen:=by
 have f:k<ss.length:=by have:=h.len;omega
 have e:txt ss k=ss[k]:=by unfold txt;rw[List.getD_eq_getElem?_getD,List.getElem?_eq_getElem f];rfl
 obtain⟨d,g,m,p⟩:=h.1.2.2.2 k (.string ss[k]) (by simp[f]);exact⟨d,g,m,by rw[e];exact p,by rw[e];exact h.2 _ (List.getElem_mem f)⟩
end
theorem Qw3 (w:World):Zq w none 0 0 []:=⟨⟨rfl,Nat.le_refl _,Nat.zero_le _,λj u f=>by simp at f⟩,λs d=>by simp at d⟩
section
open Go.ChangeShapes Go.WideShapes Go.ChangeAt
section
variable {H:Type}{enc:TypeId × Value->H}{P:Program}
theorem Qeb (E:laidOutB P=true){W D:World}{F:Nat->Bool}:∀(m:List TypeId) (vs:List Value) (u:List (DataW H)) (g:List MemPlace),
  (∀t∈m,P.readableRec t=true/\t<P.types.size)->DataW.TrodAll enc P W 0 (λ_=>true) true m vs u g->(∀p∈g,W.sameAt D p)->(∀p∈g,F p.block=true)->DataW.TrodAll enc P D 0 F true m vs u g
 |[],vs,u,g,_,h,_,_=>by
  obtain⟨rfl,rfl,rfl⟩:=trodAll_nil h;exact trodAll_mk0
 |t::m,vs,u,g,hr,h,hs,hsp=>by
  obtain⟨v,z,d,y,p,q,rfl,rfl,rfl,h1,h2⟩:=trodAll_cons h;have ⟨I,J⟩:=hr t (List.mem_cons_self ..);refine⟨p,q,WideElems.Trod_stays E I J h1 (λx f=>hs x (List.mem_append_left _ f)) (λx f=>hsp x (List.mem_append_left _ f)),?_,rfl⟩;exact Qeb E m z y q (λt G=>hr t (List.mem_cons_of_mem _ G)) h2 (λx f=>hs x (List.mem_append_right _ f)) (λx f=>hsp x (List.mem_append_right _ f))
theorem Qz8 {f:Func}{s:ChangeSpec}{tb:TypeId}{W G:World}{g:Array Value}{E M:List (DataW H)}{d:List MemPlace}
  (F:f.resultTypes=#[tb]) (z:P.underlying tb=some .bool) (m:s.vars=[]) (T:laidOutB P=true) (V:∀t∈f.params.toList,P.readableRec t=true/\t<P.types.size)
  (I:DataW.Whole enc P f.params.toList s.vars false W g.toList E M d) (u:s.fn H (E++M)={ results:=[.lit (.bool true)],args:=E }) (Q:Below W.1.size W G) :
  s.post enc P f false true false false W g (.bool true) G:=by
 have D:∀p∈d,p.block<W.1.size:=λp U=>I.lt p U
 have J:=I;obtain⟨p,q,R,O,rfl,X,hn⟩:=I;rw[m] at O;obtain⟨rfl,rfl⟩:=trodVars_none O;rw[List.append_nil] at D u;have y:DataW.TrodAll enc P G 0 (λb=>decide (b<W.1.size)) true f.params.toList g.toList E p:=
  Qeb T _ _ _ _ V R (λx K=>Q.same (D x K)) (λx K=>by simpa using D x K)
 refine⟨E,[],p++[],[],p,[],J,?_,?_,?_,?_,λh=>by cases h⟩
 ·rw[List.append_nil,u,F];exact trodAll_mk1 (shut_bool z true)
 ·rw[List.append_nil,u];exact y
 ·rw[List.append_nil,u,m];rfl
 ·exact Q.frame _
end
theorem Qr8 {H:Type}{enc:TypeId × Value->H}{P:Program}{W:World}{t e:TypeId}{v:Value}{d:DataW H}{T:List MemPlace}(M:P.underlying t=some (.slice e))(F:P.underlying e=some .string)(q:P.cellsOf e=1)
  (O:∃a len cap,v=.slice a len cap) (h:DataW.Trod enc P W 0 (λ_=>true) true t v d T):∃A n c ss,v=.slice A n c/\Zq W A n c ss:=by
 obtain⟨z,G⟩:=h;obtain⟨a0,g,y,rfl⟩:=O;rcases open_strings M F q G with⟨f,_⟩|⟨a,len,cap,E,f,_,J,hm,R,_,m,Q⟩
 ·simp[Value.cells] at f;obtain⟨rfl,rfl,rfl⟩:=f;exact⟨_,_,_,[],rfl,Qw3 W⟩
 ·simp[Value.cells] at f;obtain⟨rfl,rfl,rfl⟩:=f;rw[if_pos rfl] at R;refine⟨_,_,_,E.take g,rfl,⟨?_,J,hm,λj u D=>?_⟩,λs K=>Q s (List.mem_of_mem_take K)⟩
  ·simp;omega
  ·have I:j<g:=by have:=(List.getElem?_eq_some_iff.1 D).1;simp at this;omega
   have p:j<E.length:=by omega
   have q:=m j p;refine⟨a,rfl,?_,?_⟩
   ·have:=World.block_lt_of_cell? W (a.add j) q;rwa [Y7] at this
   ·rw[q,<-D];rw[List.getElem?_map,List.getElem?_take_of_lt I,List.getElem?_eq_getElem p];simp[List.getD,p]
end
section
open Go.ChangeMaps (setBlock)
def kI (e:MapEntry):Int:=match e.key with|.int _ z=>z|_=>0
def Qd (s:Int):List MapEntry->Option Value
 |[]=>none
 |e::r=>if kI e=s then some e.val else Qd s r
def Qv (s:Int)(v:Value)(c:Nat):List MapEntry->List MapEntry
 |[]=>[{ key:=.int .i64 s,val:=v,born:=c }]
 |e::r=>if kI e=s then { e with key:=.int .i64 s,val:=v }::r else e::Qv s v c r
def Q9 (s:Int):List MapEntry->List MapEntry
 |[]=>[]
 |e::r=>if kI e=s then r else e::Q9 s r
structure Jl (l:List MapEntry)(clock:Nat):Prop where
 key:∀e∈l,e.key=.int .i64 (kI e)
 one:(l.map kI).Nodup
 born:(l.map (·.born)).Nodup
 clock:∀e∈l,e.born<clock
theorem Wx (s:Int)(v:Value)(c:Nat):kI { key:=.int .i64 s,val:=v,born:=c }=s:=rfl
theorem Aa {s:Int}{v:Value}:∀{l:List MapEntry},Qd s l=some v->∃e∈l,kI e=s/\e.val=v
 |[],h=>by cases h
 |e::r,h=>by
  unfold Qd at h;split at h
  ·exact⟨e,by simp,by assumption,by simpa using h⟩
  ·obtain⟨x,d,h2⟩:=Aa h;exact⟨x,by simp[d],h2⟩
theorem G6 {s:Int}:∀{l:List MapEntry},Qd s l=none->∀e∈l,kI e≠s
 |[],_,e,he=>by cases he
 |x::r,h,e,he=>by
  unfold Qd at h;split at h
  ·cases h
  ·rcases List.mem_cons.1 he with rfl|h2
   ·assumption
   ·exact G6 h e h2
theorem Ih {l:List MapEntry}(hn:(l.map kI).Nodup){e:MapEntry}(d:e∈l):Qd (kI e) l=some e.val:=by
 induction l with
 |nil=>cases d
 |cons x r ih=>
  unfold Qd;rw[List.map_cons,List.nodup_cons] at hn;rcases List.mem_cons.1 d with rfl|h2
  ·simp
  ·rw[if_neg (λh=>hn.1 (by rw[h];exact List.mem_map.2 ⟨e,h2,rfl⟩))];exact ih hn.2 h2
theorem Ac (s:Int)(v:Value)(c:Nat)(z:Int):∀l:List MapEntry,Qd z (Qv s v c l)=if z=s then some v else Qd z l
 |[]=>by
  unfold Qv Qd;rw[Wx];by_cases h:s=z
  ·simp[h]
  ·have:¬z=s:=λe=>h e.symm
   simp[h,this,Qd]
 |e::r=>by
  unfold Qv;by_cases h:kI e=s
  ·rw[if_pos h];by_cases d:s=z
   ·subst d;simp[Qd,kI]
   ·have f:¬z=s:=λe=>d e.symm
    have g:¬kI e=z:=λe=>d (h.symm.trans e)
    have m:¬kI { e with key:=.int .i64 s,val:=v }=z:=d;unfold Qd;rw[if_neg m,if_neg f,if_neg g]
  ·rw[if_neg h];unfold Qd;rw[Ac s v c z r];by_cases d:kI e=z
   ·have:¬z=s:=λp=>h (d.trans p)
    simp[d,this]
   ·simp[d]
theorem Ad {s:Int}(z:Int):∀{l:List MapEntry},(l.map kI).Nodup->Qd z (Q9 s l)=if z=s then none else Qd z l
 |[],_=>by simp[Q9,Qd]
 |e::r,hn=>by
  rw[List.map_cons,List.nodup_cons] at hn;unfold Q9;by_cases h:kI e=s
  ·rw[if_pos h];by_cases d:z=s
   ·rw[if_pos d,d]
    cases g:Qd s r with
    |none=>rfl
    |some v=>
     obtain⟨x,p,h2,_⟩:=Aa g;exact absurd (List.mem_map.2 ⟨x,p,h2.trans h.symm⟩) hn.1
   ·rw[if_neg d];have m:Qd z (e::r)=Qd z r:=by
     show (if kI e=z then some e.val else Qd z r)=_;rw[if_neg (λf=>d (f.symm.trans h))]
    exact m.symm
  ·rw[if_neg h];unfold Qd;rw[Ad z hn.2];by_cases d:kI e=z
   ·have:¬z=s:=λf=>h (d.trans f)
    simp[d,this]
   ·simp[d]
theorem V3 {s:Int}{v:Value}{c:Nat}:∀{l:List MapEntry} {e:MapEntry},e∈Qv s v c l->e∈l\/(e.key=.int .i64 s/\(e.born=c\/∃x∈l,x.born=e.born))
 |[],e,h=>by
  simp[Qv] at h;subst h;exact .inr ⟨rfl,.inl rfl⟩
 |x::r,e,h=>by
  unfold Qv at h;split at h
  ·rcases List.mem_cons.1 h with rfl|h2
   ·exact .inr ⟨rfl,.inr ⟨x,by simp,rfl⟩⟩
   ·exact .inl (by simp[h2])
  ·rcases List.mem_cons.1 h with rfl|h2
   ·exact .inl (by simp)
   ·rcases V3 h2 with d|⟨d,f⟩
    ·exact .inl (by simp[d])
    ·refine .inr ⟨d,f.imp id λ⟨y,m,g⟩=>⟨y,by simp[m],g⟩⟩
theorem V4 {s:Int}:∀{l:List MapEntry} {e:MapEntry},e∈Q9 s l->e∈l
 |[],e,h=>by cases h
 |x::r,e,h=>by
  unfold Q9 at h;split at h
  ·simp[h]
  ·rcases List.mem_cons.1 h with rfl|h2
   ·simp
   ·simp[V4 h2]
theorem q22 {s:Int}:∀(l:List MapEntry),List.Sublist (Q9 s l) l
 |[]=>.slnil
 |x::r=>by
  unfold Q9;split
  ·exact List.sublist_cons_self ..
  ·exact (q22 r).cons_cons x
theorem Ak {s:Int}{v:Value}{c:Nat}:∀(l:List MapEntry),(Qv s v c l).map kI=if Qd s l=none then l.map kI++[s] else l.map kI
 |[]=>by simp[Qv,Qd,kI]
 |x::r=>by
  unfold Qv Qd;by_cases h:kI x=s
  ·rw[if_pos h,if_pos h,if_neg (by simp)];simp[kI] at h ⊢;exact h.symm
  ·rw[if_neg h,if_neg h,List.map_cons,Ak r];split<;>simp
theorem Uy {s:Int}{v:Value}{c:Nat}:∀(l:List MapEntry),(Qv s v c l).map (·.born)=if Qd s l=none then l.map (·.born)++[c] else l.map (·.born)
 |[]=>by simp[Qv,Qd]
 |x::r=>by
  unfold Qv Qd;by_cases h:kI x=s
  ·rw[if_pos h,if_pos h,if_neg (by simp)];simp
  ·rw[if_neg h,if_neg h,List.map_cons,Uy r];split<;>simp
theorem Qiy {s:Int}:∀(l:List MapEntry),(Q9 s l).length=if Qd s l=none then l.length else l.length-1
 |[]=>by simp[Q9,Qd]
 |x::r=>by
  unfold Q9 Qd;by_cases h:kI x=s
  ·simp[h]
  ·rw[if_neg h,if_neg h,List.length_cons,Qiy r];split
   ·simp
   ·rename_i d;have:0<r.length:=by
     rcases r with _|⟨a,b⟩
     ·exact absurd rfl d
     ·simp
    simp;omega
theorem Qyi:Jl [] 0:=⟨by simp,by simp,by simp,by simp⟩
theorem Jl.put {l:List MapEntry}{clock:Nat}(h:Jl l clock)(s:Int)(v:Value):Jl (Qv s v clock l) (if Qd s l=none then clock+1 else clock):=by
 have q:∀e∈Qv s v clock l,e.born<clock+1:=λe d=>by
  rcases V3 d with h2|⟨_,h2|⟨x,p,h2⟩⟩
  ·have:=h.clock e h2;omega
  ·omega
  ·have:=h.clock x p;omega
 refine⟨λe d=>?_,?_,?_,λe d=>?_⟩
 ·rcases V3 d with h2|⟨h2,_⟩
  ·exact h.key e h2
  ·unfold kI;rw[h2]
 ·rw[Ak];split
  ·rename_i g;rw[List.nodup_append];refine⟨h.one,by simp,λa m b f=>?_⟩;obtain rfl:b=s:=by simpa using f
   obtain⟨e,d,rfl⟩:=List.mem_map.1 m;exact G6 g e d
  ·exact h.one
 ·rw[Uy];split
  ·rw[List.nodup_append];refine⟨h.born,by simp,λa m b f=>?_⟩;obtain rfl:b=clock:=by simpa using f
   obtain⟨e,d,rfl⟩:=List.mem_map.1 m;have:=h.clock e d;show e.born≠b;omega
  ·exact h.born
 ·by_cases g:Qd s l=none
  ·rw[if_pos g];exact q e d
  ·rw[if_neg g];have f:e.born∈(Qv s v clock l).map (·.born):=List.mem_map.2 ⟨e,d,rfl⟩;rw[Uy,if_neg g] at f;obtain⟨x,p,h2⟩:=List.mem_map.1 f;have:=h.clock x p;rw[<-h2];exact this
theorem Jl.del {l:List MapEntry}{clock:Nat}(h:Jl l clock)(s:Int):Jl (Q9 s l) clock:=
 ⟨λe d=>h.key e (V4 d),h.one.sublist ((q22 l).map kI),h.born.sublist ((q22 l).map _),λe d=>h.clock e (V4 d)⟩
theorem Qfb (s:Int):∀(l:List MapEntry) (i:Nat),(∀e∈l,e.key=.int .i64 (kI e))->
  (Instr.findNow (.int .i64) (.int .i64 s) l i=some none/\Qd s l=none/\(∀v c,Qv s v c l=l++[{ key:=.int .i64 s,val:=v,born:=c }])/\Q9 s l=l)\/
  ∃j e,Instr.findNow (.int .i64) (.int .i64 s) l i=some (some (i+j,e.val))/\l[j]?=some e/\e.key=.int .i64 s/\Qd s l=some e.val/\
   (∀v c,Qv s v c l=l.modify j λe=>{ e with key:=.int .i64 s,val:=v })/\Q9 s l=l.eraseIdx j
 |[],i,_=>.inl ⟨rfl,rfl,λ_ _=>rfl,rfl⟩
 |x::r,i,hk=>by
  have m:=hk x (by simp);by_cases h:kI x=s
  ·refine .inr ⟨0,x,?_,rfl,by rw[m,h],by simp[Qd,h],λv c=>by simp[Qv,h],by simp[Q9,h]⟩;rw[Instr.findNow,m,h];simp[Instr.sameNow]
  ·have p:Instr.findNow (.int .i64) (.int .i64 s) (x::r) i=Instr.findNow (.int .i64) (.int .i64 s) r (i+1):=by
    have g:(s==kI x)=false:=by rw[beq_eq_false_iff_ne];exact λe=>h e.symm
    rw[Instr.findNow,m];simp[Instr.sameNow,g]
   rcases Qfb s r (i+1) (λe y=>hk e (by simp[y])) with⟨h1,h2,d,f⟩|⟨j,e,h1,h2,d,f,q,u⟩
   ·exact .inl ⟨p.trans h1,by simp[Qd,h,h2],λv c=>by simp[Qv,h,d],by simp[Q9,h,f]⟩
   ·refine .inr ⟨j+1,e,by rw[p,h1];congr 3;omega,by simpa using h2,d,by simp[Qd,h,f],λv c=>by simp[Qv,h,q],by simp[Q9,h,u]⟩
section
variable {P:Program}{w:World}{t k e b clock:Nat}{l:List MapEntry}
theorem Qhq (E:Jl l clock)(p:P.underlying t=some (.map k e))(f:P.underlying k=some (.int .i64)){z:Value}(y:(zeroValue e).run P w=.ok z w)(g:w.1[b]?=some (.map l.toArray clock))(s:Int) :
  (Instr.lookup t (.map (some b)) (.int .i64 s) false).run P w=.ok ((Qd s l).getD z) w:=by
 have m:=λq=>MapKept.run_checkKey (P:=P) (w:=w) f (k:=.int .i64 s) rfl q 9999
 rcases Qfb s l 0 E.key with⟨h1,h2,_⟩|⟨j,x,h1,_,_,u,_⟩
 ·have d:=MapKept.run_findKey (P:=P) (w:=w) f h1;simp[Instr.lookup,run_underlying p,MapKept.run_getObj_map g,m,d,y,h2]
 ·have d:=MapKept.run_findKey (P:=P) (w:=w) f h1;simp[Instr.lookup,run_underlying p,MapKept.run_getObj_map g,m,d,u]
theorem Tv (E:Jl l clock)(u:P.underlying t=some (.map k e))(m:P.underlying k=some (.int .i64))(d:w.1[b]?=some (.map l.toArray clock))(s:Int)(v:Value) :
  (Instr.mapUpdate t (.map (some b)) (.int .i64 s) v).run P w=.ok () (setBlock w b (.map (Qv s v clock l).toArray (if Qd s l=none then clock+1 else clock))):=by
 have q:=λy=>MapKept.run_checkKey (P:=P) (w:=w) m (k:=.int .i64 s) rfl y 9999
 rcases Qfb s l 0 E.key with⟨h1,h2,g,_⟩|⟨j,x,h1,F,g,z,D,_⟩
 ·have f:=MapKept.run_findKey (P:=P) (w:=w) m h1;simp[Instr.mapUpdate,run_underlying u,MapKept.run_getObj_map d,q,f,h2,g,MapKept.run_setObj_map _ d,setBlock]
 ·have f:=MapKept.run_findKey (P:=P) (w:=w) m h1;rw[Nat.zero_add] at f;have p:(Instr.keyThatStays (.int .i64 s) (.int .i64 s)).run P w=.ok (.int .i64 s) w:=by
   simp[Instr.keyThatStays,Instr.sameBits]
  simp[Instr.mapUpdate,run_underlying u,MapKept.run_getObj_map d,q,f,z,D,F,g,p,MapKept.run_setObj_map _ d,setBlock]
theorem Qcq (E:Jl l clock)(p:P.underlying t=some (.map k e))(g:P.underlying k=some (.int .i64))(d:w.1[b]?=some (.map l.toArray clock))(s:Int)(u ty:TypeId) :
  (Builtin.delete_ #[t,u] ty #[.map (some b),.int .i64 s]).run P w=.ok (.tuple #[]) (setBlock w b (.map (Q9 s l).toArray clock)):=by
 have m:=λq=>MapKept.run_checkKey (P:=P) (w:=w) g (k:=.int .i64 s) rfl q 9999
 rcases Qfb s l 0 E.key with⟨h1,h2,_,y⟩|⟨j,x,h1,F,D,_,_,z⟩
 ·have f:=MapKept.run_findKey (P:=P) (w:=w) g h1;simp[Builtin.delete_,run_underlying p,MapKept.run_getObj_map d,m,f,y,MapKept.run_setObj_map _ d,setBlock]
 ·have f:=MapKept.run_findKey (P:=P) (w:=w) g h1;rw[Nat.zero_add] at f;simp[Builtin.delete_,run_underlying p,MapKept.run_getObj_map d,m,f,z,MapKept.run_setObj_map _ d,setBlock]
end
end
theorem T22:U8 Tryz.prog 48 5:=⟨Tryz.underlying48,by kernel_rfl⟩
def Tab (w:World):Prop:=1<w.1.size/\∀k:Nat,k<16->w.cell? ⟨1,k,none⟩=some (.int .u32 (U2 k:Nat))
theorem Tab.below {w w':World}{B:Nat}(h:Tab w)(hb:Below B w w')(hB:1<B):Tab w':=
 ⟨by have:=hb.size;have:=h.1;omega,λk d=>(hb.cell (p:=⟨1,k,none⟩) hB).trans (h.2 k d)⟩
theorem Qjw (r:Nat)(q:r<4294967296)(w:World)(h:Tab w) :
  Calls Tryz.prog 277 #[.int .u32 (r:Nat)] w λe w'=>e=.returned (.int .u32 (U2 r:Nat))/\w=w':=by
 obtain⟨m,hm⟩:∃m,m=r % 16:=⟨_,rfl⟩;have d:m<16:=by omega
 have f:=h.2 m d;have g:bits .and .u32 (r:Int) 15=(m:Int):=by
  rw[show (15:Int)=((15:Nat):Int) from rfl,u32_and_nat r 15 q (by omega),nat_mask4,hm]
 have p:=Lib.hid hm;clear hm;go_enter Tryz.func277,Tryz.ntmps277
 go_wp2;go_ret;have u:bits .xor .u32 ((r:Int) / 16) (U2 m:Nat)=(U2 r:Nat):=by
  rw[show (r:Int) / 16=((r / 16:Nat):Int) by omega,u32_xor_nat _ _ (by omega) (Qnc (by omega)),p.out,<-Za3 r]
 exact⟨Qm1 u,rfl⟩
theorem Zaq (r:Nat)(l:List UInt8)(k:Nat)(h:k<l.length):Yl r (l.take (k+1))=U2 (U2 (Yl r (l.take k) ^^^ Xy l k)):=by
 rw[Qma l k h,Qn9];have:=Ub l k;unfold by8 Ht;rw[show (UInt8.ofNat (Xy l k)).toNat=Xy l k by simp;omega]
theorem Qzt (s:Nat)(O:s<4294967296)(A:Option Addr)(n c:Nat)(l:List UInt8)(w:World)(g:Sl w A n c l)(Q:Tab w) :
  Calls Tryz.prog 254 #[.int .u32 (s:Nat),.slice A n c] w λe w'=>e=.returned (.int .u32 (more s l:Nat))/\w=w':=by
 have hm:=g.max;have W:=g.cap;unfold maxLen at hm;have Hl:=Lib.hid g.len;obtain⟨q,I⟩:∃q,q=4294967295-s:=⟨_,rfl⟩;have M:bits .xor .u32 IntKind.u32.max (s:Int)=(q:Int):=by
  rw[show IntKind.u32.max=((4294967295:Nat):Int) from rfl,u32_xor_nat _ s (by omega) O,Nat.xor_comm,Qqu O,I]
 have u:q<4294967296:=by omega
 have Hq:=Lib.hid I;clear I;go_enter Tryz.func254,Tryz.ntmps254
 go_wp2;go_loop [5,12] (λr i=>∃k:Nat,k<=n/\i=.int .i64 k/\r=.int .u32 (Yl q (l.take k):Nat)) (λ_ i=>n-(intOf i).toNat)
 case atStart=>exact⟨0,Nat.zero_le _,rfl,rfl⟩
 case round=>
  obtain⟨k,X,rfl,rfl⟩:=hrel;have z:=Qu0 (l.take k) u;by_cases p:k<n
  ·obtain⟨U,rfl,V,G⟩:=g.cell p;have T:=Ub l k;have F:=Lib.hid (Zaq q l k (by rw[Hl.out];exact p));generalize Yl q (l.take k)=x at z F;have D:bits .xor .u32 (x:Int) (Xy l k:Int)=((x ^^^ Xy l k:Nat):Int):=u32_xor_nat _ _ z (by omega);have J:x ^^^ Xy l k<4294967296:=Qs9 z (by omega);generalize x ^^^ Xy l k=y at D J F;have E:=Qnc J;go_wp2_with fail
   refine (Qjw y J w Q).mono ?_;rintro e w' ⟨rfl,rfl⟩;obtain⟨K,f⟩:∃K,K=U2 y:=⟨_,rfl⟩;rw[<-f] at E F ⊢;have R:=Lib.hid f;clear f;go_wp2_with fail
   refine (Qjw K E w Q).mono ?_;rintro e w' ⟨rfl,rfl⟩;go_wp2;exact⟨⟨k+1,by omega,by go_num,by rw[F.out]⟩,by simp[intOf];omega⟩
  ·obtain rfl:k=n:=by omega
   have Ht:=Lib.hid (show l.take k=l from List.take_of_length_le (by rw[Hl.out];omega));have d:bits .xor .u32 IntKind.u32.max (Yl q (l.take k):Int)=((4294967295-Yl q (l.take k):Nat):Int):=by
    rw[show IntKind.u32.max=((4294967295:Nat):Int) from rfl,u32_xor_nat _ _ (by omega) z,Nat.xor_comm,Qqu z]
   have m:=Lib.hid d;clear d;go_wp2;go_ret;exact⟨Qm1 (by rw[m.out,Ht.out,Hq.out];rfl),rfl⟩
theorem sum_any (A:Option Addr)(n c:Nat)(l:List UInt8)(w:World)(h:Sl w A n c l)(d:Tab w) :
  Calls Tryz.prog 241 #[.slice A n c] w λe w'=>e=.returned (.int .u32 (more 0 l:Nat))/\w=w':=by
 go_enter Tryz.func241,Tryz.ntmps241
 go_wp2_with (go_at_call 254;refine (Qzt 0 (by omega) A n c l w h d).mono ?_;rintro e w' ⟨rfl,rfl⟩)
 go_ret;exact⟨rfl,rfl⟩
section
open Go.ChangeShapes Go.WideShapes Go.ChangeAt
theorem Qmt {H:Type}{enc:TypeId × Value->H}{P:Program}{W:World}{base:Nat}{M:Nat->Bool}{held:Bool}{fuel:Nat}{t e:TypeId}{n:Nat}{k:IntKind}{f:List Value}{zs:List Int}{p:List MemPlace}
  (J:P.underlying t=some (.array n e)) (I:P.underlying e=some (.int k)) (G:P.cellsOf e=1) (h:DataW.trod enc P W base M held fuel t f=some (.agg (zs.map λz=>.lit (.int k z)),p)) (i:Nat) (hi:i<n):f[i]?=some (.int k (zs.getD i 0)):=by
 obtain⟨xs,m,rfl,u,_,hn,g⟩:=DataW.trod_array J h;have h1:=g i hi;rw[G,Nat.mul_one] at h1;have d:i<xs.length:=by omega
 rw[List.getElem?_eq_getElem d] at h1;obtain⟨z,D,E,_⟩:=DataW.trod_int I h1;simp only[Prod.mk.injEq,DataW.agg.injEq] at u;have h2:=congrArg (λl=>l[i]?) u.1;simp only[List.getElem?_map] at h2;rw[List.getElem?_eq_getElem d,E] at h2;have K:zs[i]?=some z:=by
  cases q:zs[i]? with
  |none=>rw[q] at h2;cases h2
  |some y=>rw[q] at h2;simp only[Option.map_some,Option.some.injEq] at h2;cases h2;rfl
 have F:f[i]?=some (.int k z):=by
  have:=congrArg (λl=>l[0]?) D;simpa [List.getElem?_take,List.getElem?_drop] using this
 rw[F,List.getD_eq_getElem?_getD,K];rfl
theorem Qv3 {P:Program}{W:World}{name:String}{g:Nat}{t e:TypeId}{n:Nat}{k:IntKind}{zs:List Int}(u:P.globalNamed name=some g)(m:(P.globals[g]?).map (·.type)=some t)
  (F:P.underlying t=some (.array n e)) (E:P.underlying e=some (.int k)) (D:P.cellsOf e=1) (h:laidMet P [(name,.agg (zs.map λz=>.lit (.int k z)))] W) (i:Nat) (hi:i<n):W.cell? ⟨g,i,none⟩=some (.int k (zs.getD i 0)):=by
 obtain⟨K,⟨I,t0,y,G,J,M,f,p,q,d,_,_⟩,_,_⟩:=h;obtain rfl:=Option.some.inj (u.symm.trans f);obtain rfl:=Option.some.inj (m.symm.trans p);rw[World.var?_cell u q i];have:=Qmt F E D d i hi;simpa using this
end
section
open Go.ChangeShapes Go.WideShapes Go.ChangeAt
theorem Qwk:ownKnob Tryz.prog.godebug=none:=by kernel_rfl
theorem Zfs:laidOutB Tryz.prog=true:=by kernel_rfl
abbrev LAID:List (String × DataW Unit):=[("cambium/sum.shifted",Rows.laid_cambium_sum_shifted)]
theorem door_met (os:Os)(d:Array Value):laidMetH Tryz.prog LAID ((World.doorLaid Tryz.prog 400 os).forCall (λ_ _=>0) ⟨#[],d,[]⟩).memory:=
 laidMetH_of_parts3 (fuel:=8) (laidMet_of_run' 8 (by kernel_rfl) (by kernel_rfl)) (by kernel_rfl) (by kernel_rfl)
theorem Qzc {W:World}(h:laidMetH Tryz.prog LAID W):Tab W:=by
 rw[MakeChecks.laidMetH_plain _ _ _ (by kernel_rfl)] at h;have f:∀k:Nat,k<16->W.cell? ⟨1,k,none⟩=some (.int .u32 (([0,274646895,549293790,820201905,1098587580,1361435347,1640403810,1905808397,2197175160,2460548119,2722870694,2987750089,3280807620,3553878443,3811616794,4084100981]:List Int).getD k 0)):=λk d=>
  Qv3 (zs:=[0,274646895,549293790,820201905,1098587580,1361435347,1640403810,1905808397,2197175160,2460548119,2722870694,2987750089,3280807620,3553878443,3811616794,4084100981]) (g:=1) (by kernel_rfl) (by kernel_rfl) Tryz.underlying362 Tryz.underlying248 (by kernel_rfl) h k d
 have m:∀k:Nat,k<16->([0,274646895,549293790,820201905,1098587580,1361435347,1640403810,1905808397,2197175160,2460548119,2722870694,2987750089,3280807620,3553878443,3811616794,4084100981]:List Int).getD k 0=(U2 k:Nat):=by decide +kernel
 exact⟨by have:=World.block_lt_of_cell? W _ (f 0 (by omega));exact this,λk d=>by rw[f k d,m k d]⟩
end
