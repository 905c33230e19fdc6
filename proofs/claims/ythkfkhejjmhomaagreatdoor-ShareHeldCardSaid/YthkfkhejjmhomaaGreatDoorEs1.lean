/- Words for slices whose cells are read, over the kit's library; nothing here speaks of one  -/
import Derived.Test.YthkfkhejjmhomaaGreatDoorCrc
import Derived.WalkKit
import Derived.Deep.Draws
import Derived.Deep.AppendLies
import Derived.Maps.AppendAt
import Derived.Lib.ConvBytes
import Derived.ProofKit
import Derived.OpenShut
import Derived.Carry
import Derived.ChangeSame
import Derived.SizedLaws
import Derived.SliceStrings
import Derived.ChangeMaps5
import Derived.Test.YthkfkhejjmhomaaGreatDoorRows
import Derived.Laws.BitsAll
import Derived.LaidMore
import Derived.LaidHandle
import Derived.MakeChecks
import Derived.Deep.Matrix
import Derived.Stop.Joined
namespace Go.Proofs.YthkfkhejjmhomaaGreatDoor
open Go Go.RowKit Go.Proofs
set_option maxHeartbeats 400000
theorem Qn {w:World}{o:Obj}:Below w.1.size w (w.alloc o):=(Below.refl _ _).alloc (Nat.le_refl _) _
theorem q9z {k:IntKind}{a b:Int}(h:a=b):Ending.returned (.int k a)=.returned (.int k b):=by rw[h]
def bv (b:UInt8):Value:=.int .u8 (b.toNat:Int)
def Yy (l:List UInt8)(k:Nat):Nat:=(l.getD k 0).toNat
theorem q6m (l:List UInt8)(k:Nat):Yy l k<=255:=by have:=(l.getD k 0).toNat_lt;unfold Yy;omega
theorem qf2 (l:List UInt8)(k:Nat)(h:k<l.length):l.take (k+1)=l.take k++[UInt8.ofNat (Yy l k)]:=by
 rw[List.take_succ_eq_append_getElem h];simp[Yy,List.getD,h]
theorem Nl (a:Addr)(n:Nat):(a.add n).block=a.block:=by unfold Addr.add;split<;>rfl
theorem qjk (a:Addr)(i j:Nat):(a.add i).add j=a.add (i+j):=by
 unfold Addr.add;by_cases b:i=0<;>by_cases d:j=0<;>simp[b,d,Nat.add_assoc]
def Holds (w:World)(B:Nat)(A:Option Addr)(n c:Nat)(xs:List Value):Prop:=
 xs.length=n/\n<=c/\c<=maxLen/\∀(j:Nat) u,xs[j]?=some u->∃b,A=some b/\b.block<B/\w.cell? (b.add j)=some u
def Sl (w:World)(A:Option Addr)(n c:Nat)(l:List UInt8):Prop:=Holds w w.1.size A n c (l.map bv)
section
variable {w w':World}{B B' n c:Nat}{A:Option Addr}{xs:List Value}
theorem Holds.len (h:Holds w B A n c xs):xs.length=n:=h.1
theorem Holds.keep (h:Holds w B A n c xs)(hk:∀p:Addr,p.block<B->w'.cell? p=w.cell? p):Holds w' B A n c xs:=
 ⟨h.1,h.2.1,h.2.2.1,λj u m=>by
  obtain⟨d,e,b,f⟩:=h.2.2.2 j u m;exact⟨d,e,b,(hk _ (by rw[Nl];exact b)).trans f⟩⟩
theorem Holds.more (h:Holds w B A n c xs)(hB:B<=B'):Holds w B' A n c xs:=
 ⟨h.1,h.2.1,h.2.2.1,λj u f=>by
  obtain⟨b,e,m,d⟩:=h.2.2.2 j u f;exact⟨b,e,by omega,d⟩⟩
theorem Holds.below (h:Holds w B A n c xs)(hb:Below B w w'):Holds w' B A n c xs:=h.keep λ_ b=>hb.cell b
end
section
variable {w w':World}{n c:Nat}{A:Option Addr}{l:List UInt8}
theorem Sl.len (h:Sl w A n c l):l.length=n:=by simpa using h.1
theorem Sl.cap (h:Sl w A n c l):n<=c:=h.2.1
theorem Sl.max (h:Sl w A n c l):c<=maxLen:=h.2.2.1
theorem Sl.below (h:Sl w A n c l)(hb:Below w.1.size w w'):Sl w' A n c l:=(Holds.below h hb).more hb.size
theorem Sl.drew (h:Sl w A n c l):Sl w.drew A n c l:=h
theorem Sl.cell (h:Sl w A n c l){k:Nat}(hk:k<n):∃b,A=some b/\b.block<w.1.size/\w.cell? (b.add k)=some (.int .u8 (Yy l k:Int)):=by
 have d:k<l.length:=by have:=h.len;omega
 obtain⟨b,e,f,m⟩:=h.2.2.2 k (bv l[k]) (by simp[d]);exact⟨b,e,f,by rw[m];unfold Yy bv;rw[List.getD_eq_getElem?_getD,List.getElem?_eq_getElem d];rfl⟩
theorem Sl.take (h:Sl w A n c l){k:Nat}(hk:k<=n):Sl w A k c (l.take k):=by
 refine⟨by have:=h.len;simp;omega,by have:=h.cap;omega,h.max,λj u b=>h.2.2.2 j u ?_⟩;rw[List.map_take,List.getElem?_take] at b;split at b
 ·exact b
 ·cases b
theorem Sl.drop (h:Sl w A n c l){k:Nat}(hk:k<=n):Sl w (if c=k then A else A.map (·.add k)) (n-k) (c-k) (l.drop k):=by
 refine⟨by have:=h.len;simp;omega,by have:=h.cap;omega,by have:=h.max;omega,λj u b=>?_⟩;rw[List.map_drop,List.getElem?_drop] at b;obtain⟨d,rfl,f,m⟩:=h.2.2.2 _ u b;have p:k+j<n:=by
  have:=h.1;have h2:=(List.getElem?_eq_some_iff.1 b).1;omega
 rw[if_neg (by have:=h.cap;omega)];exact⟨d.add k,rfl,by rw[Nl];exact f,by rw[qjk];exact m⟩
end
structure Y6 (P:Program)(t e:TypeId):Prop where
 sl:P.underlying t=some (.slice e)
 info:(P.info? e).map (λi=>(i.zero,i.size,i.bytes))=some (some (.int .u8 0),1,1)
def Own (w:World)(base:Nat)(e:TypeId)(A:Option Addr)(n c:Nat)(l:List UInt8):Prop:=w.ownsRow base e 1 (.slice A n c) n (l.map bv)
theorem qf3 (l:List UInt8):∀u∈l.map bv,u.oneCell'=true:=by
 intro u b;obtain⟨_,_,rfl⟩:=List.mem_map.1 b;rfl
section
variable {w w':World}{base n c:Nat}{e:TypeId}{A:Option Addr}{l:List UInt8}
theorem Own.len (h:Own w base e A n c l):l.length=n:=by have:=h.1;simpa using this
theorem Own.sl (h:Own w base e A n c l):Sl w A n c l:=by
 refine⟨by have:=h.len;simpa using this,?_,?_,λj u m=>?_⟩
 ·rcases h.2 with⟨b,rfl⟩|⟨g,cap,d,b,_,_,h1,h2,_⟩
  ·omega
  ·injection b with _ _ f;omega
 ·rcases h.2 with⟨b,rfl⟩|⟨g,cap,d,b,_,_,h1,h2,_⟩
  ·injection b with _ _ f;unfold maxLen;omega
  ·injection b with _ _ f;omega
 ·rcases h.2 with⟨b,rfl⟩|⟨g,cap,d,b,E,y,h1,h2,f,D⟩
  ·have:=h.len;have h0:=(List.getElem?_eq_some_iff.1 m).1;simp at h0;omega
  ·have p:A=some ⟨g,0,none⟩:=by injection b
   subst p;exact⟨_,rfl,(Array.getElem?_eq_some_iff.1 y).1,h.cells (g:=g) rfl j u m⟩
theorem Own.block (h:Own w base e A n c l):∀b,A=some b->base<=b.block/\b.block<w.1.size:=by
 intro b d;subst d;exact h.lt b.block rfl
theorem Own.at_ {g:Nat}(h:Own w base e (some ⟨g,0,none⟩) n c l)(j:Nat)(hj:j<n):w.cell? ⟨g,j,none⟩=some (.int .u8 (Yy l j:Int))/\w.frozen? ⟨g,j,none⟩=false:=by
 have b:=h.len;refine⟨?_,World.ownsRow.frozenAt h j⟩;rw[World.ownsRow.cellAt h j (by omega),List.getElem?_map,List.getElem?_eq_getElem (by omega)];unfold Yy;rw[List.getD_eq_getElem?_getD,List.getElem?_eq_getElem (by omega)];rfl
theorem Own.Uj {g:Nat}(h:Own w base e (some ⟨g,0,none⟩) n c l)(j:Nat)(b:UInt8):Own (w.setCell ⟨g,j,none⟩ (bv b)) base e (some ⟨g,0,none⟩) n c (l.set j b):=by
 unfold Own;rw[List.map_set];exact (World.ownsRow.stored h j (bv b)).1
theorem Own.less {b:Nat}(h:Own w base e A n c l)(hb:b<=base):Own w b e A n c l:=by
 refine⟨h.1,?_⟩;rcases h.2 with f|⟨g,cap,d,f,h1,r⟩
 ·exact .inl f
 ·exact .inr ⟨g,cap,d,f,Nat.le_trans hb h1,r⟩
theorem Own.drew (h:Own w base e A n c l):Own w.drew base e A n c l:=h
theorem Own.below (h:Own w base e A n c l)(hb:Below w.1.size w w'):Own w' base e A n c l:=by
 refine⟨h.1,?_⟩;rcases h.2 with d|⟨g,cap,b,d,h1,f,r⟩
 ·exact .inl d
 ·exact .inr ⟨g,cap,b,d,h1,(hb.block g (Array.getElem?_eq_some_iff.1 f).1).trans f,r⟩
end
section
variable {P:Program}{t e:TypeId}(w:World)
theorem qo6 (n:Nat):(madeCells (Value.int .u8 0).cells (n*1)).toList=(List.replicate n (0:UInt8)).map bv:=by
 rw[show (Value.int .u8 0).cells=#[.int .u8 0] from rfl,Nat.mul_one,toList_madeCells_one];simp[bv]
theorem qf4 (T:Y6 P t e){ops:Array Oper}{b:List Oper}{o:Oper}{a:Act}{Q:Exit->Act->World->Prop}
  (E:o.guard=none) (l c:Operand) (d:o.op=Op.makeSlice t l c) (u kc:IntKind) (n:Nat) (G:a.eval l=.int u (n:Int)) (D:a.eval c=.int kc (n:Int)) (I:n<=281474976710656)
  (y:∀w',Own w' w.1.size e (some ⟨w.1.size,0,none⟩) n n (List.replicate n 0)->Below w.1.size w w'->wpList P ops Q b (a.put o.dst (.slice (some ⟨w.1.size,0,none⟩) n n)) w') :
  wpList P ops Q (o::b) a w:=by
 obtain⟨i,F,f,m,p⟩:=info_parts T.info;refine wpList_make_full w E l c t d w.1.size e i _ 1 T.sl F f m u kc _ _ n G D rfl rfl (by rw[p];omega) (by unfold maxLen;omega) (Nat.le_refl _) λw' h1 h2=>?_
 refine y w' ?_ ((Below.refl _ _).grown h2 (Nat.le_refl _) (by simp));unfold Own;rw[<-qo6];exact h1
theorem qf5 (T:Y6 P t e){ops:Array Oper}{b:List Oper}{o:Oper}{a:Act}{Q:Exit->Act->World->Prop}
  (E:o.guard=none) (l c:Operand) (d:o.op=Op.makeSlice t l c) (u kc:IntKind) (n:Nat) (G:a.eval l=.int u 0) (D:a.eval c=.int kc (n:Int)) (I:n<=281474976710656)
  (y:∀w',Own w' w.1.size e (some ⟨w.1.size,0,none⟩) 0 n []->Below w.1.size w w'->wpList P ops Q b (a.put o.dst (.slice (some ⟨w.1.size,0,none⟩) 0 n)) w') :
  wpList P ops Q (o::b) a w:=by
 obtain⟨i,F,f,m,p⟩:=info_parts T.info;refine wpList_make_own w E l c t d w.1.size e i _ 1 T.sl F f m u kc _ n G D rfl (by rw[p];omega) (by unfold maxLen;omega) (Nat.le_refl _) λw' h1 h2=>?_
 exact y w' h1 ((Below.refl _ _).grown h2 (Nat.le_refl _) (by simp))
theorem q6n (T:Y6 P t e)(ty:TypeId)(base:Nat)(A:Option Addr)(n c:Nat)(l:List UInt8)(b:Own w base e A n c l)
  (B:Option Addr) (m d:Nat) (y:List UInt8) (I:Sl w B m d y) (a0:n+m<=140737488355328) (f:base<=w.1.size) :
  ∃D E w',(Builtin.append_ #[t,t] ty #[.slice A n c,.slice B m d]).run P w=.ok (.slice D (n+m) E) w'/\Own w' base e D (n+m) E (l++y)/\Below base w w'/\
   w.grownBy w' (Value.ownBlock (.slice A n c)):=by
 obtain⟨i,M,R,U,W⟩:=info_parts T.info;have fin:∀G w',(Builtin.append_ #[t,t] ty #[.slice A n c,.slice B m d]).run P w=.ok G w'->w'.ownsRow base e 1 G (n+m) (l.map bv++y.map bv)->
   w.grownBy w' (Value.ownBlock (.slice A n c))->∃D E w',(Builtin.append_ #[t,t] ty #[.slice A n c,.slice B m d]).run P w=.ok (.slice D (n+m) E) w'/\Own w' base e D (n+m) E (l++y)/\Below base w w'/\
   w.grownBy w' (Value.ownBlock (.slice A n c)):=by
  intro G w' h1 h2 F;have X:Below base w w':=(Below.refl _ _).grown F f (λk hk=>(b.lt k hk).1);rw[<-List.map_append] at h2;rcases h2.2 with⟨rfl,h0⟩|⟨g,cap,K,rfl,_⟩
  ·exact⟨none,0,w',by rw[h1,h0],by unfold Own;rw[h0] at h2 ⊢;exact h2,X,F⟩
  ·exact⟨_,_,w',h1,h2,X,F⟩
 rcases B with _|J
 ·have hm:m=0:=by
   rcases Nat.eq_zero_or_pos m with h0|h0
   ·exact h0
   ·obtain⟨J,h,_⟩:=I.cell h0
    cases h
  subst hm;have hn:y=[]:=List.eq_nil_of_length_eq_zero I.len;subst hn;refine fin (.slice A n c) w ?_ (by rw[Nat.add_zero,List.map_nil,List.append_nil];exact b) (World.grownBy.refl w _);rcases b.2 with⟨Q,rfl⟩|⟨g,cap,K,Q,_,_,O,_⟩
  ·rw[Q];simp[Builtin.append_,run_underlying T.sl,sizeOf,typeInfo,M,Builtin.lenOf,Builtin.firstCells]
  ·rw[Q];simp[Builtin.append_,run_underlying T.sl,sizeOf,typeInfo,M,Builtin.lenOf,Builtin.firstCells,O,storeCells]
 ·have p:∀j u,(y.map bv)[j]?=some u->w.cell? (J.add j)=some u:=by
   intro j u hu;obtain⟨Y,h,_,Z⟩:=I.2.2.2 j u hu;injection h with h;subst h;exact Z
  obtain⟨G,w',h1,h2,F,_,_⟩:=run_append_own_at (P:=P) w base t ty e i _ 1 1 T.sl M R U W rfl (by omega) _ n _ b J m d (y.map bv) (by have:=I.len;simpa using this) p (qf3 _) (by unfold maxLen;omega) (by omega) f;exact fin G w' h1 h2 F
theorem qa0 (T:Y6 P t e){ops:Array Oper}{b:List Oper}{o:Oper}{a:Act}{Q:Exit->Act->World->Prop}(E:o.guard=none)(s x:Operand)
  (M:o.op=.call { callee:=.builtin .append,args:=#[s,x],argTypes:=#[t,t] })
  (base:Nat) (A:Option Addr) (n c:Nat) (l:List UInt8) (R:a.eval s=.slice A n c) (p:Own w base e A n c l)
  (B:Option Addr) (m d:Nat) (G:List UInt8) (U:a.eval x=.slice B m d) (O:Sl w B m d G) (F:n+m<=140737488355328) (f:base<=w.1.size)
  (h:∀y D w',Own w' base e y (n+m) D (l++G)->Below base w w'->wpList P ops Q b (a.put o.dst (.slice y (n+m) D)) w'):wpList P ops Q (o::b) a w:=
 wpList_plain E λK J=>by
  obtain⟨y,D,w',u,h2,I,_⟩:=q6n (P:=P) w T o.type base A n c l p B m d G O F f;unfold Oper.wp execOp;simp only[M,resolve,invoke,builtin,Sem.run_bind,Sem.run_pure,Result.andThen_ok,List.map_toArray,List.map_cons,List.map_nil,R,U,u];exact J _ _ (h y D w' h2 I)
end
def nth (ls:List (List UInt8))(j:Nat):List UInt8:=ls.getD j []
def Parts (w:World)(A:Option Addr)(k c:Nat)(ls:List (List UInt8)):Prop:=
 ls.length=k/\k<=c/\c<=maxLen/\∀(j:Nat) l,ls[j]?=some l->∃b B n d,A=some b/\b.block<w.1.size/\w.cell? (b.add j)=some (.slice B n d)/\Sl w B n d l
section
variable {w w':World}{k c:Nat}{A:Option Addr}{ls:List (List UInt8)}
theorem Parts.len (h:Parts w A k c ls):ls.length=k:=h.1
theorem Parts.below (h:Parts w A k c ls)(hb:Below w.1.size w w'):Parts w' A k c ls:=
 ⟨h.1,h.2.1,h.2.2.1,λj l p=>by
  obtain⟨f,B,n,d,e,b,m,u⟩:=h.2.2.2 j l p;exact⟨f,B,n,d,e,Nat.lt_of_lt_of_le b hb.size,(hb.cell (by rw[Nl];exact b)).trans m,u.below hb⟩⟩
theorem Parts.cell (h:Parts w A k c ls){j:Nat}(hj:j<k):∃b B n d,A=some b/\b.block<w.1.size/\w.cell? (b.add j)=some (.slice B n d)/\Sl w B n d (nth ls j):=by
 have m:j<ls.length:=by have:=h.1;omega
 have f:ls[j]?=some (nth ls j):=by simp[nth,List.getD,m]
 exact h.2.2.2 j _ f
end
def cat (ls:List (List UInt8))(j:Nat):List UInt8:=(ls.take j).flatten
def tot (ls:List (List UInt8))(j:Nat):Nat:=(cat ls j).length
theorem qst (ls:List (List UInt8)):cat ls 0=[]:=by simp[cat]
theorem qsu (ls:List (List UInt8)):tot ls 0=0:=by simp[tot,cat]
theorem qjl (ls:List (List UInt8))(k:Nat)(h:k<ls.length):cat ls (k+1)=cat ls k++nth ls k:=by
 unfold cat nth;rw[List.take_succ_eq_append_getElem h,List.flatten_append];simp[List.getD,h]
theorem qjm (ls:List (List UInt8))(k:Nat)(h:k<ls.length):tot ls (k+1)=tot ls k+(nth ls k).length:=by
 unfold tot;rw[qjl ls k h,List.length_append]
theorem qvr (ls:List (List UInt8))(k m:Nat)(h:k<=m):tot ls k<=tot ls m:=by
 unfold tot cat;have e:(ls.take m).flatten=(ls.take k).flatten++((ls.take m).drop k).flatten:=by
  rw[<-List.flatten_append];congr 1
  have h2:=List.take_append_drop k (ls.take m);rw[List.take_take,Nat.min_eq_left h] at h2;exact h2.symm
 rw[e,List.length_append];omega
theorem Sl.alloc {w:World}{A:Option Addr}{n c:Nat}{l:List UInt8}(h:Sl w A n c l)(o:Obj):Sl (w.alloc o) A n c l:=h.below ((Below.refl _ _).alloc (Nat.le_refl _) o)
theorem q66 (w:World)(b:Array Value)(t:TypeId)(j:Nat):(w.alloc (.cells b t)).cell? ((⟨w.1.size,0,none⟩:Addr).add j)=b[j]?:=by
 rw[Addr.add_lit,Nat.zero_add];exact cell_of_row (w.alloc (.cells b t)) w.1.size j b t (0,0) (heap_alloc_new w _)
theorem Bj {w:World}(t:TypeId){B:Option Addr}{n d:Nat}{l:List UInt8}(h:Sl w B n d l):Parts (w.alloc (.cells #[.slice B n d] t)) (some ⟨w.1.size,0,none⟩) 1 1 [l]:=by
 refine⟨rfl,Nat.le_refl _,by unfold maxLen;omega,λj f b=>?_⟩;rcases j with _|j
 ·obtain rfl:l=f:=by simpa using b
  exact⟨_,B,n,d,rfl,by simp,q66 w _ t 0,h.alloc _⟩
 ·simp at b
theorem Qbw {w:World}(t:TypeId){B b:Option Addr}{n d u f:Nat}{l p:List UInt8}(h:Sl w B n d l)(h2:Sl w b u f p) :
  Parts (w.alloc (.cells #[.slice B n d,.slice b u f] t)) (some ⟨w.1.size,0,none⟩) 2 2 [l,p]:=by
 refine⟨rfl,Nat.le_refl _,by unfold maxLen;omega,λj y m=>?_⟩;rcases j with _|_|j
 ·obtain rfl:l=y:=by simpa using m
  exact⟨_,B,n,d,rfl,by simp,q66 w _ t 0,h.alloc _⟩
 ·obtain rfl:p=y:=by simpa using m
  exact⟨_,b,u,f,rfl,by simp,q66 w _ t 1,h2.alloc _⟩
 ·simp at m
theorem Qbx {w:World}(t:TypeId){B f m:Option Addr}{n d F p G u:Nat}{l D E:List UInt8}(h:Sl w B n d l)(h2:Sl w f F p D)(I:Sl w m G u E) :
  Parts (w.alloc (.cells #[.slice B n d,.slice f F p,.slice m G u] t)) (some ⟨w.1.size,0,none⟩) 3 3 [l,D,E]:=by
 refine⟨rfl,Nat.le_refl _,by unfold maxLen;omega,λj y b=>?_⟩;rcases j with _|_|_|j
 ·obtain rfl:l=y:=by simpa using b
  exact⟨_,B,n,d,rfl,by simp,q66 w _ t 0,h.alloc _⟩
 ·obtain rfl:D=y:=by simpa using b
  exact⟨_,f,F,p,rfl,by simp,q66 w _ t 1,h2.alloc _⟩
 ·obtain rfl:E=y:=by simpa using b
  exact⟨_,m,G,u,rfl,by simp,q66 w _ t 2,I.alloc _⟩
 ·simp at b
theorem Qar (l:List UInt8):cat [l] 1=l:=by simp[cat]
theorem Qcw (l b:List UInt8):cat [l,b] 2=l++b:=by simp[cat]
theorem Qcx (l b d:List UInt8):cat [l,b,d] 3=l++(b++d):=by simp[cat]
theorem Qa2 (l:List UInt8):tot [l] 1=l.length:=by simp[tot,cat]
theorem Qc3 (l b:List UInt8):tot [l,b] 2=l.length+b.length:=by simp[tot,cat]
theorem Qc4 (l b d:List UInt8):tot [l,b,d] 3=l.length+(b.length+d.length):=by simp[tot,cat]
theorem qa1 (w:World)(e:TypeId):Own (w.alloc (.cells #[] e)) w.1.size e (some ⟨w.1.size,0,none⟩) 0 0 []:=
 World.ownsRow_lit (size:=1) w #[] 0 (Nat.le_refl _) (Nat.zero_le _) rfl
theorem q1f {B:Nat}{a w:World}(h:Below B a w)(n:Nat):Below B a (w.drewN n):=⟨h.os,h.tape,h.output,h.size,h.block⟩
theorem qlp (l:List UInt8)(b:ByteArray):(l.map (λx:UInt8=>(x.toNat:Int))).foldl (λr n=>r.push (UInt8.ofNat n.toNat)) b=⟨b.data++l.toArray⟩:=by
 induction l generalizing b with
 |nil=>simp
 |cons x l ih=>
  rw[List.map_cons,List.foldl_cons,ih];have e:UInt8.ofNat ((x.toNat:Int)).toNat=x:=by simp
  rw[e]
  cases b;simp[ByteArray.push]
theorem q67 {P:Program}(src b e:TypeId)(T:Y6 P src e)(y:P.underlying e=some (.int .u8))(hd:P.underlying b=some .string){w:World}{A:Option Addr}{n c:Nat}{l:List UInt8}(h:Sl w A n c l) :
  (convert src b (.slice A n c)).run P w=.ok (.string ⟨l.toArray⟩) w:=by
 rw[run_convert_bytes_string w src b e A n c T.sl y hd];rcases A with _|a
 ·have D:l=[]:=by
   rcases l with _|⟨x,l⟩
   ·rfl
   ·obtain⟨m,d,_⟩:=h.2.2.2 0 (bv x) rfl
    cases d
  subst D;simp[Conv.bytesToString,Sem.run_pure];rfl
 ·have f:∀(j:Nat) v,(l.map bv)[j]?=some v->w.cell? (a.add j)=some v:=λj u E=>by
   obtain⟨m,d,_,f⟩:=h.2.2.2 j u E;injection d with d;subst d;exact f
  have h2:=run_loadCells_list (P:=P) w a (l.map bv) f;rw[List.length_map,h.len] at h2;have p:l.map bv=(l.map (λx:UInt8=>(x.toNat:Int))).map (Value.int .u8):=by simp[bv,Function.comp_def]
  rw[p] at h2;rw[run_bytesToString w a n c _ h2,qlp];simp[ByteArray.empty,ByteArray.emptyWithCapacity];rfl
theorem qbw (w:World)(e:TypeId)(s:ByteArray)(h:s.size<=maxLen):Sl (Lib.bytesWorld w e s) (some ⟨w.1.size,0,none⟩) s.size (grownCap w s.size 0 e) s.data.toList:=by
 refine⟨by simp,grownCap_ge _ _ _ _,grownCap_le_maxLen _ _ _ _ h,λj u d=>⟨_,rfl,by rw[Lib.bytesWorld_size];simp,?_⟩⟩;have f:j<s.size:=by have:=(List.getElem?_eq_some_iff.1 d).1;simpa using this
 rw[Addr.add_lit,Nat.zero_add,Lib.bytesWorld_cell w e s j f];have b:j<s.data.toList.length:=by simpa using f
 rw[List.getElem?_map,List.getElem?_eq_getElem b] at d;rw[<-d,List.getD_eq_getElem?_getD,List.getElem?_eq_getElem b];rfl
theorem q6o (w:World)(e:TypeId)(s:ByteArray):Below w.1.size w (Lib.bytesWorld w e s):=
 ⟨rfl,rfl,rfl,by rw[Lib.bytesWorld_size];omega,λk b=>Lib.bytesWorld_at_old w e s k b⟩
theorem Np (w:World):Sl w none 0 0 []:=⟨rfl,Nat.le_refl _,Nat.zero_le _,λj u b=>by simp at b⟩
section
variable {P:Program}{t e:TypeId}(w:World)
theorem qbr (T:Y6 P t e)(ty:TypeId)(base g:Nat)(E:Own w base e (some ⟨g,0,none⟩) 0 0 [])
  (B:Option Addr) (m d:Nat) (D:List UInt8) (y:Sl w B m d D) (X:m<=140737488355328) (p:base<=w.1.size) :
  ∃Q R w',(Builtin.append_ #[t,t] ty #[.slice (some ⟨g,0,none⟩) 0 0,.slice B m d]).run P w=.ok (.slice Q m R) w'/\Own w' base e Q m R D/\Below w.1.size w w':=by
 obtain⟨i,I,K,M,O⟩:=info_parts T.info;rcases Nat.eq_zero_or_pos m with h0|h0
 ·subst h0;have hn:D=[]:=List.eq_nil_of_length_eq_zero y.len;subst hn;refine⟨some ⟨g,0,none⟩,0,w,?_,E,Below.refl _ _⟩;rcases B with _|F
  ·simp[Builtin.append_,run_underlying T.sl,sizeOf,typeInfo,I,Builtin.lenOf,Builtin.firstCells,storeCells]
  ·simp[Builtin.append_,run_underlying T.sl,sizeOf,typeInfo,I,Builtin.lenOf,Builtin.firstCells,storeCells,loadCells,loadCellsFrom]
 ·obtain⟨F,rfl,_⟩:=y.cell h0;have b:∀j u,(D.map bv)[j]?=some u->w.cell? (F.add j)=some u:=by
   intro j u Y;obtain⟨U,h,_,W⟩:=y.2.2.2 j u Y;injection h with h;subst h;exact W
  have J:(D.map bv).length=m:=by have:=y.len;simpa using this
  have f:=run_append_grow (P:=P) w t ty e i _ T.sl I K ⟨g,0,none⟩ 0 0 [] (by simp) (by simp) F m d (D.map bv) (by rw[M,J];omega) b (by omega) (by omega) (growslice_fits (by omega) (by rw[O];omega));rw[Nat.zero_add] at f;have G:=grownCap_ge w m 0 e;refine⟨_,_,_,f,⟨by rw[J];omega,.inr ⟨w.1.size,_,_,rfl,p,heap_alloc_new w.drew _,G,grownCap_le_maxLen w m 0 e (by unfold maxLen;omega),?_,?_⟩⟩,(Below.refl _ _).drew.alloc (Nat.le_refl _) _⟩
  ·simp only[Array.size_append,List.size_toArray,size_zeroCells,List.length_nil,J,show (Value.int .u8 0).cells.size=1 from rfl];omega
  ·simp only[Array.toList_append,List.nil_append];rw[List.take_append_of_le_length (by simp;have:=y.len;omega)];simp[List.take_of_length_le,y.len]
theorem qbs (T:Y6 P t e){o:Oper}{a:Act}{K:Act->World->Prop}{Q:Exit->Act->World->Prop}(s x:Operand)
  (G:o.op=.call { callee:=.builtin .append,args:=#[s,x],argTypes:=#[t,t] })
  (base g:Nat) (J:a.eval s=.slice (some ⟨g,0,none⟩) 0 0) (f:Own w base e (some ⟨g,0,none⟩) 0 0 [])
  (B:Option Addr) (m d:Nat) (E:List UInt8) (M:a.eval x=.slice B m d) (I:Sl w B m d E) (D:m<=140737488355328) (b:base<=w.1.size)
  (h:∀u y w',Own w' base e u m y E->Below w.1.size w w'->K (a.put o.dst (.slice u m y)) w'):o.wp P a w K Q:=by
 obtain⟨u,y,w',p,h2,F⟩:=qbr (P:=P) w T o.type base g f B m d E I D b;unfold Oper.wp execOp;simp only[G,resolve,invoke,builtin,Sem.run_bind,Sem.run_pure,Result.andThen_ok,List.map_toArray,List.map_cons,List.map_nil,J,M,p];exact h u y w' h2 F
theorem q3y (T:Y6 P t e){ops:Array Oper}{b:List Oper}{o:Oper}{a:Act}{Q:Exit->Act->World->Prop}(D:o.guard=none)(s x:Operand)
  (I:o.op=.call { callee:=.builtin .append,args:=#[s,x],argTypes:=#[t,t] })
  (base g:Nat) (K:a.eval s=.slice (some ⟨g,0,none⟩) 0 0) (p:Own w base e (some ⟨g,0,none⟩) 0 0 [])
  (B:Option Addr) (m d:Nat) (F:List UInt8) (M:a.eval x=.slice B m d) (J:Sl w B m d F) (E:m<=140737488355328) (f:base<=w.1.size)
  (h:∀u y w',Own w' base e u m y F->Below w.1.size w w'->wpList P ops Q b (a.put o.dst (.slice u m y)) w'):wpList P ops Q (o::b) a w:=
 wpList_plain D λ_ G=>qbs w T s x I base g K p B m d F M J E f λu y w' h1 h2=>G _ _ (h u y w' h1 h2)
end
def txt (ss:List ByteArray)(k:Nat):ByteArray:=ss.getD k ByteArray.empty
def G6 (w:World)(A:Option Addr)(n c:Nat)(ss:List ByteArray):Prop:=
 Holds w w.1.size A n c (ss.map Value.string)/\∀s∈ss,s.size<=maxLen
section
variable {w w':World}{n c:Nat}{A:Option Addr}{ss:List ByteArray}
theorem G6.len (h:G6 w A n c ss):ss.length=n:=by simpa using h.1.1
theorem G6.cap (h:G6 w A n c ss):n<=c:=h.1.2.1
theorem G6.max (h:G6 w A n c ss):c<=maxLen:=h.1.2.2.1
theorem G6.cell (h:G6 w A n c ss){k:Nat}(hk:k<n):∃b,A=some b/\b.block<w.1.size/\w.cell? (b.add k)=some (.string (txt ss k))/\(txt ss k).size<=maxLen:=by
 have d:k<ss.length:=by have:=h.len;omega
 have e:txt ss k=ss[k]:=by unfold txt;rw[List.getD_eq_getElem?_getD,List.getElem?_eq_getElem d];rfl
 obtain⟨b,f,m,p⟩:=h.1.2.2.2 k (.string ss[k]) (by simp[d]);exact⟨b,f,m,by rw[e];exact p,by rw[e];exact h.2 _ (List.getElem_mem d)⟩
end
section
open Go.ChangeShapes Go.WideShapes Go.ChangeAt
section
variable {H:Type}{enc:TypeId × Value->H}{P:Program}
theorem q6p (F:laidOutB P=true){W E:World}{G:Nat->Bool}:∀(m:List TypeId) (vs:List Value) (u:List (DataW H)) (f:List MemPlace),
  (∀t∈m,P.readableRec t=true/\t<P.types.size)->DataW.TrodAll enc P W 0 (λ_=>true) true m vs u f->(∀p∈f,W.sameAt E p)->(∀p∈f,G p.block=true)->DataW.TrodAll enc P E 0 G true m vs u f
 |[],vs,u,f,_,h,_,_=>by
  obtain⟨rfl,rfl,rfl⟩:=trodAll_nil h;exact trodAll_mk0
 |t::m,vs,u,f,hr,h,hs,hsp=>by
  obtain⟨v,D,d,y,p,q,rfl,rfl,rfl,h1,h2⟩:=trodAll_cons h;have ⟨J,K⟩:=hr t (List.mem_cons_self ..);refine⟨p,q,WideElems.Trod_stays F J K h1 (λx b=>hs x (List.mem_append_left _ b)) (λx b=>hsp x (List.mem_append_left _ b)),?_,rfl⟩;exact q6p F m D y q (λt I=>hr t (List.mem_cons_of_mem _ I)) h2 (λx b=>hs x (List.mem_append_right _ b)) (λx b=>hsp x (List.mem_append_right _ b))
theorem qjn {f:Func}{s:ChangeSpec}{tb:TypeId}{W J:World}{m:Array Value}{G Q:List (DataW H)}{d:List MemPlace}
  (I:f.resultTypes=#[tb]) (E:P.underlying tb=some .bool) (u:s.vars=[]) (X:laidOutB P=true) (Z:∀t∈f.params.toList,P.readableRec t=true/\t<P.types.size)
  (K:DataW.Whole enc P f.params.toList s.vars false W m.toList G Q d) (y:s.fn H (G++Q)={ results:=[.lit (.bool true)],args:=G }) (T:Below W.1.size W J) :
  s.post enc P f false true false false W m (.bool true) J:=by
 have F:∀p∈d,p.block<W.1.size:=λp Y=>K.lt p Y
 have M:=K;obtain⟨p,q,U,R,rfl,hz,hn⟩:=K;rw[u] at R;obtain⟨rfl,rfl⟩:=trodVars_none R;rw[List.append_nil] at F y;have D:DataW.TrodAll enc P J 0 (λb=>decide (b<W.1.size)) true f.params.toList m.toList G p:=
  q6p X _ _ _ _ Z U (λx O=>T.same (F x O)) (λx O=>by simpa using F x O)
 refine⟨G,[],p++[],[],p,[],M,?_,?_,?_,?_,λh=>by cases h⟩
 ·rw[List.append_nil,y,I];exact trodAll_mk1 (shut_bool E true)
 ·rw[List.append_nil,y];exact D
 ·rw[List.append_nil,y,u];rfl
 ·exact T.frame _
end
theorem qlq {H:Type}{enc:TypeId × Value->H}{P:Program}{W:World}{t e:TypeId}{v:Value}{d:DataW H}{ps:List MemPlace}(T:Y6 P t e)(I:P.underlying e=some (.int .u8))
  (Q:∃a len cap,v=.slice a len cap) (h:DataW.Trod enc P W 0 (λ_=>true) true t v d ps):∃A n c l,v=.slice A n c/\Sl W A n c l:=by
 obtain⟨fuel,J⟩:=h;obtain⟨X,m,F,rfl⟩:=Q;have y:P.cellsOf e=1:=by
  obtain⟨i,K,_,D,_⟩:=info_parts T.info;simp[Program.cellsOf,K,D]
 rcases open_ints T.sl I y J with⟨b,_⟩|⟨a,len,cap,E,b,_,O,hm,U,_,p,R⟩
 ·simp[Value.cells] at b;obtain⟨rfl,rfl,rfl⟩:=b;exact⟨_,_,_,[],rfl,Np W⟩
 ·simp[Value.cells] at b;obtain⟨rfl,rfl,rfl⟩:=b;rw[if_pos rfl] at U;refine⟨_,_,_,(E.take m).map (λz=>UInt8.ofNat z.toNat),rfl,?_,O,hm,λj u G=>?_⟩
  ·simp;omega
  ·have M:j<m:=by have:=(List.getElem?_eq_some_iff.1 G).1;simp at this;omega
   have f:j<E.length:=by omega
   have y:=p j f;refine⟨a,rfl,?_,?_⟩
   ·have:=World.block_lt_of_cell? W (a.add j) y;rwa [Nl] at this
   ·rw[y,<-G];rw[List.map_map,List.getElem?_map,List.getElem?_take_of_lt M,List.getElem?_eq_getElem f];have Y:=bounds_u8 (R E[j] (List.getElem_mem f));simp only[Option.map_some,Function.comp,bv,List.getD_eq_getElem?_getD,List.getElem?_eq_getElem f,Option.getD_some];congr 2
    rw[UInt8.toNat_ofNat'];omega
end
theorem Az:Y6 Tryz.prog 48 5:=⟨Tryz.underlying48,by kernel_rfl⟩
def Tab (w:World):Prop:=1<w.1.size/\∀k:Nat,k<16->w.cell? ⟨1,k,none⟩=some (.int .u32 (E8 k:Nat))
theorem Tab.below {w w':World}{B:Nat}(h:Tab w)(hb:Below B w w')(hB:1<B):Tab w':=
 ⟨by have:=hb.size;have:=h.1;omega,λk b=>(hb.cell (p:=⟨1,k,none⟩) hB).trans (h.2 k b)⟩
theorem qbx (r:Nat)(u:r<4294967296)(w:World)(h:Tab w) :
  Calls Tryz.prog 277 #[.int .u32 (r:Nat)] w λe w'=>e=.returned (.int .u32 (E8 r:Nat))/\w=w':=by
 obtain⟨m,hm⟩:∃m,m=r % 16:=⟨_,rfl⟩;have b:m<16:=by omega
 have d:=h.2 m b;have f:bits .and .u32 (r:Int) 15=(m:Int):=by
  rw[show (15:Int)=((15:Nat):Int) from rfl,u32_and_nat r 15 u (by omega),nat_mask4,hm]
 have p:=Lib.hid hm;clear hm;go_enter Tryz.func277,Tryz.ntmps277
 go_wp2;go_ret;have y:bits .xor .u32 ((r:Int) / 16) (E8 m:Nat)=(E8 r:Nat):=by
  rw[show (r:Int) / 16=((r / 16:Nat):Int) by omega,u32_xor_nat _ _ (by omega) (qjh (by omega)),p.out,<-qss r]
 exact⟨q9z y,rfl⟩
theorem qsv (r:Nat)(l:List UInt8)(k:Nat)(h:k<l.length):Xz r (l.take (k+1))=E8 (E8 (Xz r (l.take k) ^^^ Yy l k)):=by
 rw[qf2 l k h,qhi];have:=q6m l k;unfold by8 st8;rw[show (UInt8.ofNat (Yy l k)).toNat=Yy l k by simp;omega]
theorem qsw (s:Nat)(R:s<4294967296)(A:Option Addr)(n c:Nat)(l:List UInt8)(w:World)(f:Sl w A n c l)(T:Tab w) :
  Calls Tryz.prog 254 #[.int .u32 (s:Nat),.slice A n c] w λe w'=>e=.returned (.int .u32 (more s l:Nat))/\w=w':=by
 have hm:=f.max;have hc:=f.cap;unfold maxLen at hm;have O:=Lib.hid f.len;obtain⟨q,J⟩:∃q,q=4294967295-s:=⟨_,rfl⟩;have Q:bits .xor .u32 IntKind.u32.max (s:Int)=(q:Int):=by
  rw[show IntKind.u32.max=((4294967295:Nat):Int) from rfl,u32_xor_nat _ s (by omega) R,Nat.xor_comm,qjj R,J]
 have u:q<4294967296:=by omega
 have U:=Lib.hid J;clear J;go_enter Tryz.func254,Tryz.ntmps254
 go_wp2;go_loop [5,12] (λr i=>∃k:Nat,k<=n/\i=.int .i64 k/\r=.int .u32 (Xz q (l.take k):Nat)) (λ_ i=>n-(intOf i).toNat)
 case atStart=>exact⟨0,Nat.zero_le _,rfl,rfl⟩
 case round=>
  obtain⟨k,hk,rfl,rfl⟩:=hrel;have D:=qo5 (l.take k) u;by_cases p:k<n
  ·obtain⟨Z,rfl,hb,I⟩:=f.cell p;have Y:=q6m l k;have G:=Lib.hid (qsv q l k (by rw[O.out];exact p));generalize Xz q (l.take k)=x at D G;have E:bits .xor .u32 (x:Int) (Yy l k:Int)=((x ^^^ Yy l k:Nat):Int):=u32_xor_nat _ _ D (by omega);have K:x ^^^ Yy l k<4294967296:=qo4 D (by omega);generalize x ^^^ Yy l k=y at E K G;have F:=qjh K;go_wp2_with fail
   refine (qbx y K w T).mono ?_;rintro e w' ⟨rfl,rfl⟩;obtain⟨M,d⟩:∃M,M=E8 y:=⟨_,rfl⟩;rw[<-d] at F G ⊢;have X:=Lib.hid d;clear d;go_wp2_with fail
   refine (qbx M F w T).mono ?_;rintro e w' ⟨rfl,rfl⟩;go_wp2;exact⟨⟨k+1,by omega,by go_num,by rw[G.out]⟩,by simp[intOf];omega⟩
  ·obtain rfl:k=n:=by omega
   have W:=Lib.hid (show l.take k=l from List.take_of_length_le (by rw[O.out];omega));have b:bits .xor .u32 IntKind.u32.max (Xz q (l.take k):Int)=((4294967295-Xz q (l.take k):Nat):Int):=by
    rw[show IntKind.u32.max=((4294967295:Nat):Int) from rfl,u32_xor_nat _ _ (by omega) D,Nat.xor_comm,qjj D]
   have m:=Lib.hid b;clear b;go_wp2;go_ret;exact⟨q9z (by rw[m.out,W.out,U.out];rfl),rfl⟩
theorem qwd (A:Option Addr)(n c:Nat)(l:List UInt8)(w:World)(h:Sl w A n c l)(b:Tab w) :
  Calls Tryz.prog 241 #[.slice A n c] w λe w'=>e=.returned (.int .u32 (more 0 l:Nat))/\w=w':=by
 go_enter Tryz.func241,Tryz.ntmps241
 go_wp2_with (go_at_call 254;refine (qsw 0 (by omega) A n c l w h b).mono ?_;rintro e w' ⟨rfl,rfl⟩)
 go_ret;exact⟨rfl,rfl⟩
section
open Go.ChangeShapes Go.WideShapes Go.ChangeAt
theorem qf6 {H:Type}{enc:TypeId × Value->H}{P:Program}{W:World}{base:Nat}{Q:Nat->Bool}{held:Bool}{fuel:Nat}{t e:TypeId}{n:Nat}{k:IntKind}{d:List Value}{zs:List Int}{p:List MemPlace}
  (M:P.underlying t=some (.array n e)) (J:P.underlying e=some (.int k)) (I:P.cellsOf e=1) (h:DataW.trod enc P W base Q held fuel t d=some (.agg (zs.map λz=>.lit (.int k z)),p)) (i:Nat) (K:i<n):d[i]?=some (.int k (zs.getD i 0)):=by
 obtain⟨xs,m,rfl,D,_,hn,f⟩:=DataW.trod_array M h;have h1:=f i K;rw[I,Nat.mul_one] at h1;have b:i<xs.length:=by omega
 rw[List.getElem?_eq_getElem b] at h1;obtain⟨z,E,F,_⟩:=DataW.trod_int J h1;simp only[Prod.mk.injEq,DataW.agg.injEq] at D;have h2:=congrArg (λl=>l[i]?) D.1;simp only[List.getElem?_map] at h2;rw[List.getElem?_eq_getElem b,F] at h2;have O:zs[i]?=some z:=by
  cases u:zs[i]? with
  |none=>rw[u] at h2;cases h2
  |some y=>rw[u] at h2;simp only[Option.map_some,Option.some.injEq] at h2;cases h2;rfl
 have G:d[i]?=some (.int k z):=by
  have:=congrArg (λl=>l[0]?) E;simpa [List.getElem?_take,List.getElem?_drop] using this
 rw[G,List.getD_eq_getElem?_getD,O];rfl
theorem qo7 {P:Program}{W:World}{name:String}{g:Nat}{t e:TypeId}{n:Nat}{k:IntKind}{zs:List Int}(u:P.globalNamed name=some g)(f:(P.globals[g]?).map (·.type)=some t)
  (G:P.underlying t=some (.array n e)) (E:P.underlying e=some (.int k)) (D:P.cellsOf e=1) (h:laidMet P [(name,.agg (zs.map λz=>.lit (.int k z)))] W) (i:Nat) (F:i<n):W.cell? ⟨g,i,none⟩=some (.int k (zs.getD i 0)):=by
 obtain⟨M,⟨J,Q,y,I,K,O,d,m,p,b,_,_⟩,_,_⟩:=h;obtain rfl:=Option.some.inj (u.symm.trans d);obtain rfl:=Option.some.inj (f.symm.trans m);rw[World.var?_cell u p i];have:=qf6 G E D b i F;simpa using this
end
section
open Go.ChangeShapes Go.WideShapes Go.ChangeAt
theorem Dn:ownKnob Tryz.prog.godebug=none:=by kernel_rfl
theorem Qbb:laidOutB Tryz.prog=true:=by kernel_rfl
abbrev LAID:List (String × DataW Unit):=[("cambium/sum.shifted",Rows.laid_cambium_sum_shifted)]
theorem qjo (os:Os)(b:Array Value):laidMetH Tryz.prog LAID ((World.doorLaid Tryz.prog 400 os).forCall (λ_ _=>0) ⟨#[],b,[]⟩).memory:=
 laidMetH_of_parts3 (fuel:=8) (laidMet_of_run' 8 (by kernel_rfl) (by kernel_rfl)) (by kernel_rfl) (by kernel_rfl)
theorem qjp {W:World}(h:laidMetH Tryz.prog LAID W):Tab W:=by
 rw[MakeChecks.laidMetH_plain _ _ _ (by kernel_rfl)] at h;have d:∀k:Nat,k<16->W.cell? ⟨1,k,none⟩=some (.int .u32 (([0,274646895,549293790,820201905,1098587580,1361435347,1640403810,1905808397,2197175160,2460548119,2722870694,2987750089,3280807620,3553878443,3811616794,4084100981]:List Int).getD k 0)):=λk b=>
  qo7 (zs:=[0,274646895,549293790,820201905,1098587580,1361435347,1640403810,1905808397,2197175160,2460548119,2722870694,2987750089,3280807620,3553878443,3811616794,4084100981]) (g:=1) (by kernel_rfl) (by kernel_rfl) Tryz.underlying362 Tryz.underlying248 (by kernel_rfl) h k b
 have f:∀k:Nat,k<16->([0,274646895,549293790,820201905,1098587580,1361435347,1640403810,1905808397,2197175160,2460548119,2722870694,2987750089,3280807620,3553878443,3811616794,4084100981]:List Int).getD k 0=(E8 k:Nat):=by decide +kernel
 exact⟨by have:=World.block_lt_of_cell? W _ (d 0 (by omega));exact this,λk b=>by rw[d k b,f k b]⟩
end
