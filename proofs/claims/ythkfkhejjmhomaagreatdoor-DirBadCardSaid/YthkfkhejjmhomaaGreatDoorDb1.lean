/- Words for slices whose cells are read, over the kit's library; nothing here speaks of one  -/
import Derived.Test.YthkfkhejjmhomaaGreatDoorCrc
import Derived.WalkKit
import Derived.Deep.Draws
import Derived.Deep.AppendLies
import Derived.Maps.AppendAt
import Derived.Lib.ConvBytes
import Derived.ProofKit
import Derived.OpenShut
import Derived.Carry
import Derived.ChangeSame
import Derived.SizedLaws
import Derived.SliceStrings
import Derived.ChangeMaps5
import Derived.Maps.RangeRun
import Derived.Maps.Keyed
import Derived.Test.YthkfkhejjmhomaaGreatDoorRows
import Derived.Laws.BitsAll
import Derived.LaidMore
import Derived.LaidHandle
import Derived.MakeChecks
import Derived.Deep.Matrix
import Derived.Stop.Joined
namespace Go.Proofs.YthkfkhejjmhomaaGreatDoor
open Go Go.RowKit Go.Proofs
set_option maxHeartbeats 400000
theorem Qk {w:World}{o:Obj}:Below w.1.size w (w.alloc o):=(Below.refl _ _).alloc (Nat.le_refl _) _
theorem qgq {k:IntKind}{a b:Int}(h:a=b):Ending.returned (.int k a)=.returned (.int k b):=by rw[h]
def bv (b:UInt8):Value:=.int .u8 (b.toNat:Int)
def Ku (l:List UInt8)(k:Nat):Nat:=(l.getD k 0).toNat
theorem q96 (l:List UInt8)(k:Nat):Ku l k<=255:=by have:=(l.getD k 0).toNat_lt;unfold Ku;omega
theorem qef (l:List UInt8)(k:Nat)(h:k<l.length):l.take (k+1)=l.take k++[UInt8.ofNat (Ku l k)]:=by
 rw[List.take_succ_eq_append_getElem h];simp[Ku,List.getD,h]
theorem Ls (a:Addr)(n:Nat):(a.add n).block=a.block:=by unfold Addr.add;split<;>rfl
theorem qim (a:Addr)(i j:Nat):(a.add i).add j=a.add (i+j):=by
 unfold Addr.add;by_cases hi:i=0<;>by_cases d:j=0<;>simp[hi,d,Nat.add_assoc]
def Holds (w:World)(B:Nat)(A:Option Addr)(n c:Nat)(xs:List Value):Prop:=
 xs.length=n/\n<=c/\c<=maxLen/\∀(j:Nat) u,xs[j]?=some u->∃d,A=some d/\d.block<B/\w.cell? (d.add j)=some u
def Sl (w:World)(A:Option Addr)(n c:Nat)(l:List UInt8):Prop:=Holds w w.1.size A n c (l.map bv)
section
variable {w w':World}{B B' n c:Nat}{A:Option Addr}{xs:List Value}
theorem Holds.len (h:Holds w B A n c xs):xs.length=n:=h.1
theorem Holds.keep (h:Holds w B A n c xs)(hk:∀p:Addr,p.block<B->w'.cell? p=w.cell? p):Holds w' B A n c xs:=
 ⟨h.1,h.2.1,h.2.2.1,λj u y=>by
  obtain⟨f,e,d,m⟩:=h.2.2.2 j u y;exact⟨f,e,d,(hk _ (by rw[Ls];exact d)).trans m⟩⟩
theorem Holds.more (h:Holds w B A n c xs)(hB:B<=B'):Holds w B' A n c xs:=
 ⟨h.1,h.2.1,h.2.2.1,λj u m=>by
  obtain⟨d,e,p,f⟩:=h.2.2.2 j u m;exact⟨d,e,by omega,f⟩⟩
theorem Holds.below (h:Holds w B A n c xs)(hb:Below B w w'):Holds w' B A n c xs:=h.keep λ_ d=>hb.cell d
end
section
variable {w w':World}{n c:Nat}{A:Option Addr}{l:List UInt8}
theorem Sl.len (h:Sl w A n c l):l.length=n:=by simpa using h.1
theorem Sl.cap (h:Sl w A n c l):n<=c:=h.2.1
theorem Sl.max (h:Sl w A n c l):c<=maxLen:=h.2.2.1
theorem Sl.below (h:Sl w A n c l)(hb:Below w.1.size w w'):Sl w' A n c l:=(Holds.below h hb).more hb.size
theorem Sl.drew (h:Sl w A n c l):Sl w.drew A n c l:=h
theorem Sl.cell (h:Sl w A n c l){k:Nat}(hk:k<n):∃d,A=some d/\d.block<w.1.size/\w.cell? (d.add k)=some (.int .u8 (Ku l k:Int)):=by
 have f:k<l.length:=by have:=h.len;omega
 obtain⟨d,e,m,p⟩:=h.2.2.2 k (bv l[k]) (by simp[f]);exact⟨d,e,m,by rw[p];unfold Ku bv;rw[List.getD_eq_getElem?_getD,List.getElem?_eq_getElem f];rfl⟩
theorem Sl.take (h:Sl w A n c l){k:Nat}(hk:k<=n):Sl w A k c (l.take k):=by
 refine⟨by have:=h.len;simp;omega,by have:=h.cap;omega,h.max,λj u d=>h.2.2.2 j u ?_⟩;rw[List.map_take,List.getElem?_take] at d;split at d
 ·exact d
 ·cases d
theorem Sl.drop (h:Sl w A n c l){k:Nat}(hk:k<=n):Sl w (if c=k then A else A.map (·.add k)) (n-k) (c-k) (l.drop k):=by
 refine⟨by have:=h.len;simp;omega,by have:=h.cap;omega,by have:=h.max;omega,λj u d=>?_⟩;rw[List.map_drop,List.getElem?_drop] at d;obtain⟨f,rfl,m,p⟩:=h.2.2.2 _ u d;have y:k+j<n:=by
  have:=h.1;have h2:=(List.getElem?_eq_some_iff.1 d).1;omega
 rw[if_neg (by have:=h.cap;omega)];exact⟨f.add k,rfl,by rw[Ls];exact m,by rw[qim];exact p⟩
end
structure Ux (P:Program)(t e:TypeId):Prop where
 sl:P.underlying t=some (.slice e)
 info:(P.info? e).map (λi=>(i.zero,i.size,i.bytes))=some (some (.int .u8 0),1,1)
def Own (w:World)(base:Nat)(e:TypeId)(A:Option Addr)(n c:Nat)(l:List UInt8):Prop:=w.ownsRow base e 1 (.slice A n c) n (l.map bv)
theorem qeg (l:List UInt8):∀u∈l.map bv,u.oneCell'=true:=by
 intro u d;obtain⟨_,_,rfl⟩:=List.mem_map.1 d;rfl
section
variable {w w':World}{base n c:Nat}{e:TypeId}{A:Option Addr}{l:List UInt8}
theorem Own.len (h:Own w base e A n c l):l.length=n:=by have:=h.1;simpa using this
theorem Own.sl (h:Own w base e A n c l):Sl w A n c l:=by
 refine⟨by have:=h.len;simpa using this,?_,?_,λj u p=>?_⟩
 ·rcases h.2 with⟨d,rfl⟩|⟨g,cap,f,d,_,_,h1,h2,_⟩
  ·omega
  ·injection d with _ _ m;omega
 ·rcases h.2 with⟨d,rfl⟩|⟨g,cap,f,d,_,_,h1,h2,_⟩
  ·injection d with _ _ m;unfold maxLen;omega
  ·injection d with _ _ m;omega
 ·rcases h.2 with⟨d,rfl⟩|⟨g,cap,f,d,F,D,h1,h2,m,E⟩
  ·have:=h.len;have h0:=(List.getElem?_eq_some_iff.1 p).1;simp at h0;omega
  ·have y:A=some ⟨g,0,none⟩:=by injection d
   subst y;exact⟨_,rfl,(Array.getElem?_eq_some_iff.1 D).1,h.cells (g:=g) rfl j u p⟩
theorem Own.block (h:Own w base e A n c l):∀d,A=some d->base<=d.block/\d.block<w.1.size:=by
 intro d f;subst f;exact h.lt d.block rfl
theorem Own.at_ {g:Nat}(h:Own w base e (some ⟨g,0,none⟩) n c l)(j:Nat)(hj:j<n):w.cell? ⟨g,j,none⟩=some (.int .u8 (Ku l j:Int))/\w.frozen? ⟨g,j,none⟩=false:=by
 have d:=h.len;refine⟨?_,World.ownsRow.frozenAt h j⟩;rw[World.ownsRow.cellAt h j (by omega),List.getElem?_map,List.getElem?_eq_getElem (by omega)];unfold Ku;rw[List.getD_eq_getElem?_getD,List.getElem?_eq_getElem (by omega)];rfl
theorem Own.Af {g:Nat}(h:Own w base e (some ⟨g,0,none⟩) n c l)(j:Nat)(b:UInt8):Own (w.setCell ⟨g,j,none⟩ (bv b)) base e (some ⟨g,0,none⟩) n c (l.set j b):=by
 unfold Own;rw[List.map_set];exact (World.ownsRow.stored h j (bv b)).1
theorem Own.less {b:Nat}(h:Own w base e A n c l)(hb:b<=base):Own w b e A n c l:=by
 refine⟨h.1,?_⟩;rcases h.2 with f|⟨g,cap,d,f,h1,r⟩
 ·exact .inl f
 ·exact .inr ⟨g,cap,d,f,Nat.le_trans hb h1,r⟩
theorem Own.drew (h:Own w base e A n c l):Own w.drew base e A n c l:=h
theorem Own.below (h:Own w base e A n c l)(hb:Below w.1.size w w'):Own w' base e A n c l:=by
 refine⟨h.1,?_⟩;rcases h.2 with f|⟨g,cap,d,f,h1,m,r⟩
 ·exact .inl f
 ·exact .inr ⟨g,cap,d,f,h1,(hb.block g (Array.getElem?_eq_some_iff.1 m).1).trans m,r⟩
end
section
variable {P:Program}{t e:TypeId}(w:World)
theorem qnd (n:Nat):(madeCells (Value.int .u8 0).cells (n*1)).toList=(List.replicate n (0:UInt8)).map bv:=by
 rw[show (Value.int .u8 0).cells=#[.int .u8 0] from rfl,Nat.mul_one,toList_madeCells_one];simp[bv]
theorem qeh (T:Ux P t e){f:Array Oper}{d:List Oper}{o:Oper}{a:Act}{Q:Exit->Act->World->Prop}
  (G:o.guard=none) (l c:Operand) (m:o.op=Op.makeSlice t l c) (D kc:IntKind) (n:Nat) (I:a.eval l=.int D (n:Int)) (F:a.eval c=.int kc (n:Int)) (J:n<=281474976710656)
  (E:∀w',Own w' w.1.size e (some ⟨w.1.size,0,none⟩) n n (List.replicate n 0)->Below w.1.size w w'->wpList P f Q d (a.put o.dst (.slice (some ⟨w.1.size,0,none⟩) n n)) w') :
  wpList P f Q (o::d) a w:=by
 obtain⟨i,hi,p,u,y⟩:=info_parts T.info;refine wpList_make_full w G l c t m w.1.size e i _ 1 T.sl hi p u D kc _ _ n I F rfl rfl (by rw[y];omega) (by unfold maxLen;omega) (Nat.le_refl _) λw' h1 h2=>?_
 refine E w' ?_ ((Below.refl _ _).grown h2 (Nat.le_refl _) (by simp));unfold Own;rw[<-qnd];exact h1
theorem qei (T:Ux P t e){f:Array Oper}{d:List Oper}{o:Oper}{a:Act}{Q:Exit->Act->World->Prop}
  (G:o.guard=none) (l c:Operand) (m:o.op=Op.makeSlice t l c) (D kc:IntKind) (n:Nat) (I:a.eval l=.int D 0) (F:a.eval c=.int kc (n:Int)) (J:n<=281474976710656)
  (E:∀w',Own w' w.1.size e (some ⟨w.1.size,0,none⟩) 0 n []->Below w.1.size w w'->wpList P f Q d (a.put o.dst (.slice (some ⟨w.1.size,0,none⟩) 0 n)) w') :
  wpList P f Q (o::d) a w:=by
 obtain⟨i,hi,p,u,y⟩:=info_parts T.info;refine wpList_make_own w G l c t m w.1.size e i _ 1 T.sl hi p u D kc _ n I F rfl (by rw[y];omega) (by unfold maxLen;omega) (Nat.le_refl _) λw' h1 h2=>?_
 exact E w' h1 ((Below.refl _ _).grown h2 (Nat.le_refl _) (by simp))
theorem q66 (T:Ux P t e)(ty:TypeId)(base:Nat)(A:Option Addr)(n c:Nat)(l:List UInt8)(f:Own w base e A n c l)
  (B:Option Addr) (m d:Nat) (D:List UInt8) (J:Sl w B m d D) (a1:n+m<=140737488355328) (p:base<=w.1.size) :
  ∃E F w',(Builtin.append_ #[t,t] ty #[.slice A n c,.slice B m d]).run P w=.ok (.slice E (n+m) F) w'/\Own w' base e E (n+m) F (l++D)/\Below base w w'/\
   w.grownBy w' (Value.ownBlock (.slice A n c)):=by
 obtain⟨i,hi,R,U,W⟩:=info_parts T.info;have fin:∀I w',(Builtin.append_ #[t,t] ty #[.slice A n c,.slice B m d]).run P w=.ok I w'->w'.ownsRow base e 1 I (n+m) (l.map bv++D.map bv)->
   w.grownBy w' (Value.ownBlock (.slice A n c))->∃E F w',(Builtin.append_ #[t,t] ty #[.slice A n c,.slice B m d]).run P w=.ok (.slice E (n+m) F) w'/\Own w' base e E (n+m) F (l++D)/\Below base w w'/\
   w.grownBy w' (Value.ownBlock (.slice A n c)):=by
  intro I w' h1 h2 G;have X:Below base w w':=(Below.refl _ _).grown G p (λk hk=>(f.lt k hk).1);rw[<-List.map_append] at h2;rcases h2.2 with⟨rfl,h0⟩|⟨g,cap,M,rfl,_⟩
  ·exact⟨none,0,w',by rw[h1,h0],by unfold Own;rw[h0] at h2 ⊢;exact h2,X,G⟩
  ·exact⟨_,_,w',h1,h2,X,G⟩
 rcases B with _|K
 ·have hm:m=0:=by
   rcases Nat.eq_zero_or_pos m with h0|h0
   ·exact h0
   ·obtain⟨K,h,_⟩:=J.cell h0
    cases h
  subst hm;have hn:D=[]:=List.eq_nil_of_length_eq_zero J.len;subst hn;refine fin (.slice A n c) w ?_ (by rw[Nat.add_zero,List.map_nil,List.append_nil];exact f) (World.grownBy.refl w _);rcases f.2 with⟨Q,rfl⟩|⟨g,cap,M,Q,_,_,O,_⟩
  ·rw[Q];simp[Builtin.append_,run_underlying T.sl,sizeOf,typeInfo,hi,Builtin.lenOf,Builtin.firstCells]
  ·rw[Q];simp[Builtin.append_,run_underlying T.sl,sizeOf,typeInfo,hi,Builtin.lenOf,Builtin.firstCells,O,storeCells]
 ·have y:∀j u,(D.map bv)[j]?=some u->w.cell? (K.add j)=some u:=by
   intro j u hu;obtain⟨Y,h,_,Z⟩:=J.2.2.2 j u hu;injection h with h;subst h;exact Z
  obtain⟨I,w',h1,h2,G,_,_⟩:=run_append_own_at (P:=P) w base t ty e i _ 1 1 T.sl hi R U W rfl (by omega) _ n _ f K m d (D.map bv) (by have:=J.len;simpa using this) y (qeg _) (by unfold maxLen;omega) (by omega) p;exact fin I w' h1 h2 G
theorem q97 (T:Ux P t e){D:Array Oper}{f:List Oper}{o:Oper}{a:Act}{Q:Exit->Act->World->Prop}(G:o.guard=none)(s x:Operand)
  (R:o.op=.call { callee:=.builtin .append,args:=#[s,x],argTypes:=#[t,t] })
  (base:Nat) (A:Option Addr) (n c:Nat) (l:List UInt8) (W:a.eval s=.slice A n c) (u:Own w base e A n c l)
  (B:Option Addr) (m d:Nat) (J:List UInt8) (X:a.eval x=.slice B m d) (U:Sl w B m d J) (I:n+m<=140737488355328) (p:base<=w.1.size)
  (h:∀E F w',Own w' base e E (n+m) F (l++J)->Below base w w'->wpList P D Q f (a.put o.dst (.slice E (n+m) F)) w'):wpList P D Q (o::f) a w:=
 wpList_plain G λK O=>by
  obtain⟨E,F,w',y,h2,M,_⟩:=q66 (P:=P) w T o.type base A n c l u B m d J U I p;unfold Oper.wp execOp;simp only[R,resolve,invoke,builtin,Sem.run_bind,Sem.run_pure,Result.andThen_ok,List.map_toArray,List.map_cons,List.map_nil,W,X,y];exact O _ _ (h E F w' h2 M)
end
def nth (ls:List (List UInt8))(j:Nat):List UInt8:=ls.getD j []
def Parts (w:World)(A:Option Addr)(k c:Nat)(ls:List (List UInt8)):Prop:=
 ls.length=k/\k<=c/\c<=maxLen/\∀(j:Nat) l,ls[j]?=some l->∃f B n d,A=some f/\f.block<w.1.size/\w.cell? (f.add j)=some (.slice B n d)/\Sl w B n d l
section
variable {w w':World}{k c:Nat}{A:Option Addr}{ls:List (List UInt8)}
theorem Parts.len (h:Parts w A k c ls):ls.length=k:=h.1
theorem Parts.below (h:Parts w A k c ls)(hb:Below w.1.size w w'):Parts w' A k c ls:=
 ⟨h.1,h.2.1,h.2.2.1,λj l u=>by
  obtain⟨m,B,n,d,e,f,p,y⟩:=h.2.2.2 j l u;exact⟨m,B,n,d,e,Nat.lt_of_lt_of_le f hb.size,(hb.cell (by rw[Ls];exact f)).trans p,y.below hb⟩⟩
theorem Parts.cell (h:Parts w A k c ls){j:Nat}(hj:j<k):∃f B n d,A=some f/\f.block<w.1.size/\w.cell? (f.add j)=some (.slice B n d)/\Sl w B n d (nth ls j):=by
 have p:j<ls.length:=by have:=h.1;omega
 have m:ls[j]?=some (nth ls j):=by simp[nth,List.getD,p]
 exact h.2.2.2 j _ m
end
def cat (ls:List (List UInt8))(j:Nat):List UInt8:=(ls.take j).flatten
def tot (ls:List (List UInt8))(j:Nat):Nat:=(cat ls j).length
theorem qs7 (ls:List (List UInt8)):cat ls 0=[]:=by simp[cat]
theorem qs8 (ls:List (List UInt8)):tot ls 0=0:=by simp[tot,cat]
theorem qin (ls:List (List UInt8))(k:Nat)(h:k<ls.length):cat ls (k+1)=cat ls k++nth ls k:=by
 unfold cat nth;rw[List.take_succ_eq_append_getElem h,List.flatten_append];simp[List.getD,h]
theorem qio (ls:List (List UInt8))(k:Nat)(h:k<ls.length):tot ls (k+1)=tot ls k+(nth ls k).length:=by
 unfold tot;rw[qin ls k h,List.length_append]
theorem qvl (ls:List (List UInt8))(k m:Nat)(h:k<=m):tot ls k<=tot ls m:=by
 unfold tot cat;have e:(ls.take m).flatten=(ls.take k).flatten++((ls.take m).drop k).flatten:=by
  rw[<-List.flatten_append];congr 1
  have h2:=List.take_append_drop k (ls.take m);rw[List.take_take,Nat.min_eq_left h] at h2;exact h2.symm
 rw[e,List.length_append];omega
theorem Sl.alloc {w:World}{A:Option Addr}{n c:Nat}{l:List UInt8}(h:Sl w A n c l)(o:Obj):Sl (w.alloc o) A n c l:=h.below ((Below.refl _ _).alloc (Nat.le_refl _) o)
theorem q5l (w:World)(d:Array Value)(t:TypeId)(j:Nat):(w.alloc (.cells d t)).cell? ((⟨w.1.size,0,none⟩:Addr).add j)=d[j]?:=by
 rw[Addr.add_lit,Nat.zero_add];exact cell_of_row (w.alloc (.cells d t)) w.1.size j d t (0,0) (heap_alloc_new w _)
theorem Cb {w:World}(t:TypeId){B:Option Addr}{n d:Nat}{l:List UInt8}(h:Sl w B n d l):Parts (w.alloc (.cells #[.slice B n d] t)) (some ⟨w.1.size,0,none⟩) 1 1 [l]:=by
 refine⟨rfl,Nat.le_refl _,by unfold maxLen;omega,λj m f=>?_⟩;rcases j with _|j
 ·obtain rfl:l=m:=by simpa using f
  exact⟨_,B,n,d,rfl,by simp,q5l w _ t 0,h.alloc _⟩
 ·simp at f
theorem Qbd {w:World}(t:TypeId){B f:Option Addr}{n d y m:Nat}{l u:List UInt8}(h:Sl w B n d l)(h2:Sl w f y m u) :
  Parts (w.alloc (.cells #[.slice B n d,.slice f y m] t)) (some ⟨w.1.size,0,none⟩) 2 2 [l,u]:=by
 refine⟨rfl,Nat.le_refl _,by unfold maxLen;omega,λj D p=>?_⟩;rcases j with _|_|j
 ·obtain rfl:l=D:=by simpa using p
  exact⟨_,B,n,d,rfl,by simp,q5l w _ t 0,h.alloc _⟩
 ·obtain rfl:u=D:=by simpa using p
  exact⟨_,f,y,m,rfl,by simp,q5l w _ t 1,h2.alloc _⟩
 ·simp at p
theorem Qbe {w:World}(t:TypeId){B m p:Option Addr}{n d G u I y:Nat}{l E F:List UInt8}(h:Sl w B n d l)(h2:Sl w m G u E)(J:Sl w p I y F) :
  Parts (w.alloc (.cells #[.slice B n d,.slice m G u,.slice p I y] t)) (some ⟨w.1.size,0,none⟩) 3 3 [l,E,F]:=by
 refine⟨rfl,Nat.le_refl _,by unfold maxLen;omega,λj D f=>?_⟩;rcases j with _|_|_|j
 ·obtain rfl:l=D:=by simpa using f
  exact⟨_,B,n,d,rfl,by simp,q5l w _ t 0,h.alloc _⟩
 ·obtain rfl:E=D:=by simpa using f
  exact⟨_,m,G,u,rfl,by simp,q5l w _ t 1,h2.alloc _⟩
 ·obtain rfl:F=D:=by simpa using f
  exact⟨_,p,I,y,rfl,by simp,q5l w _ t 2,J.alloc _⟩
 ·simp at f
theorem Qag (l:List UInt8):cat [l] 1=l:=by simp[cat]
theorem Qcr (l d:List UInt8):cat [l,d] 2=l++d:=by simp[cat]
theorem Qcs (l d f:List UInt8):cat [l,d,f] 3=l++(d++f):=by simp[cat]
theorem Qan (l:List UInt8):tot [l] 1=l.length:=by simp[tot,cat]
theorem Qc0 (l d:List UInt8):tot [l,d] 2=l.length+d.length:=by simp[tot,cat]
theorem Qc1 (l d f:List UInt8):tot [l,d,f] 3=l.length+(d.length+f.length):=by simp[tot,cat]
theorem Own.alloc {w:World}{base:Nat}{e:TypeId}{A:Option Addr}{n c:Nat}{l:List UInt8}(h:Own w base e A n c l)(o:Obj):Own (w.alloc o) base e A n c l:=
 h.below ((Below.refl _ _).alloc (Nat.le_refl _) o)
theorem q0y {B:Nat}{a w:World}(h:Below B a w)(n:Nat):Below B a (w.drewN n):=⟨h.os,h.tape,h.output,h.size,h.block⟩
theorem ql2 (l:List UInt8)(b:ByteArray):(l.map (λx:UInt8=>(x.toNat:Int))).foldl (λr n=>r.push (UInt8.ofNat n.toNat)) b=⟨b.data++l.toArray⟩:=by
 induction l generalizing b with
 |nil=>simp
 |cons x l ih=>
  rw[List.map_cons,List.foldl_cons,ih];have e:UInt8.ofNat ((x.toNat:Int)).toNat=x:=by simp
  rw[e]
  cases b;simp[ByteArray.push]
theorem q98 {P:Program}(src d e:TypeId)(T:Ux P src e)(D:P.underlying e=some (.int .u8))(hd:P.underlying d=some .string){w:World}{A:Option Addr}{n c:Nat}{l:List UInt8}(h:Sl w A n c l) :
  (convert src d (.slice A n c)).run P w=.ok (.string ⟨l.toArray⟩) w:=by
 rw[run_convert_bytes_string w src d e A n c T.sl D hd];rcases A with _|a
 ·have E:l=[]:=by
   rcases l with _|⟨x,l⟩
   ·rfl
   ·obtain⟨p,f,_⟩:=h.2.2.2 0 (bv x) rfl
    cases f
  subst E;simp[Conv.bytesToString,Sem.run_pure];rfl
 ·have m:∀(j:Nat) v,(l.map bv)[j]?=some v->w.cell? (a.add j)=some v:=λj u F=>by
   obtain⟨p,f,_,m⟩:=h.2.2.2 j u F;injection f with f;subst f;exact m
  have h2:=run_loadCells_list (P:=P) w a (l.map bv) m;rw[List.length_map,h.len] at h2;have y:l.map bv=(l.map (λx:UInt8=>(x.toNat:Int))).map (Value.int .u8):=by simp[bv,Function.comp_def]
  rw[y] at h2;rw[run_bytesToString w a n c _ h2,ql2];simp[ByteArray.empty,ByteArray.emptyWithCapacity];rfl
theorem qbb (w:World)(e:TypeId)(s:ByteArray)(h:s.size<=maxLen):Sl (Lib.bytesWorld w e s) (some ⟨w.1.size,0,none⟩) s.size (grownCap w s.size 0 e) s.data.toList:=by
 refine⟨by simp,grownCap_ge _ _ _ _,grownCap_le_maxLen _ _ _ _ h,λj u f=>⟨_,rfl,by rw[Lib.bytesWorld_size];simp,?_⟩⟩;have m:j<s.size:=by have:=(List.getElem?_eq_some_iff.1 f).1;simpa using this
 rw[Addr.add_lit,Nat.zero_add,Lib.bytesWorld_cell w e s j m];have d:j<s.data.toList.length:=by simpa using m
 rw[List.getElem?_map,List.getElem?_eq_getElem d] at f;rw[<-f,List.getD_eq_getElem?_getD,List.getElem?_eq_getElem d];rfl
theorem q67 (w:World)(e:TypeId)(s:ByteArray):Below w.1.size w (Lib.bytesWorld w e s):=
 ⟨rfl,rfl,rfl,by rw[Lib.bytesWorld_size];omega,λk d=>Lib.bytesWorld_at_old w e s k d⟩
theorem Ik (w:World):Sl w none 0 0 []:=⟨rfl,Nat.le_refl _,Nat.zero_le _,λj u d=>by simp at d⟩
section
variable {P:Program}{t e:TypeId}(w:World)
end
def txt (ss:List ByteArray)(k:Nat):ByteArray:=ss.getD k ByteArray.empty
def Ko (w:World)(A:Option Addr)(n c:Nat)(ss:List ByteArray):Prop:=
 Holds w w.1.size A n c (ss.map Value.string)/\∀s∈ss,s.size<=maxLen
section
variable {w w':World}{n c:Nat}{A:Option Addr}{ss:List ByteArray}
theorem Ko.len (h:Ko w A n c ss):ss.length=n:=by simpa using h.1.1
theorem Ko.cap (h:Ko w A n c ss):n<=c:=h.1.2.1
theorem Ko.max (h:Ko w A n c ss):c<=maxLen:=h.1.2.2.1
theorem Ko.below (h:Ko w A n c ss)(hb:Below w.1.size w w'):Ko w' A n c ss:=⟨(Holds.below h.1 hb).more hb.size,h.2⟩
theorem Ko.cell (h:Ko w A n c ss){k:Nat}(hk:k<n):∃d,A=some d/\d.block<w.1.size/\w.cell? (d.add k)=some (.string (txt ss k))/\(txt ss k).size<=maxLen:=by
 have f:k<ss.length:=by have:=h.len;omega
 have e:txt ss k=ss[k]:=by unfold txt;rw[List.getD_eq_getElem?_getD,List.getElem?_eq_getElem f];rfl
 obtain⟨d,m,p,u⟩:=h.1.2.2.2 k (.string ss[k]) (by simp[f]);exact⟨d,m,p,by rw[e];exact u,by rw[e];exact h.2 _ (List.getElem_mem f)⟩
end
theorem qne (w:World):Ko w none 0 0 []:=⟨⟨rfl,Nat.le_refl _,Nat.zero_le _,λj u f=>by simp at f⟩,λs d=>by simp at d⟩
section
open Go.ChangeShapes Go.WideShapes Go.ChangeAt
section
variable {H:Type}{enc:TypeId × Value->H}{P:Program}
theorem q68 (G:laidOutB P=true){W F:World}{I:Nat->Bool}:∀(u:List TypeId) (vs:List Value) (y:List (DataW H)) (m:List MemPlace),
  (∀t∈u,P.readableRec t=true/\t<P.types.size)->DataW.TrodAll enc P W 0 (λ_=>true) true u vs y m->(∀p∈m,W.sameAt F p)->(∀p∈m,I p.block=true)->DataW.TrodAll enc P F 0 I true u vs y m
 |[],vs,y,m,_,h,_,_=>by
  obtain⟨rfl,rfl,rfl⟩:=trodAll_nil h;exact trodAll_mk0
 |t::u,vs,y,m,hr,h,hs,hsp=>by
  obtain⟨v,E,d,D,p,q,rfl,rfl,rfl,h1,h2⟩:=trodAll_cons h;have ⟨K,M⟩:=hr t (List.mem_cons_self ..);refine⟨p,q,WideElems.Trod_stays G K M h1 (λx f=>hs x (List.mem_append_left _ f)) (λx f=>hsp x (List.mem_append_left _ f)),?_,rfl⟩;exact q68 G u E D q (λt J=>hr t (List.mem_cons_of_mem _ J)) h2 (λx f=>hs x (List.mem_append_right _ f)) (λx f=>hsp x (List.mem_append_right _ f))
theorem qs9 {f:Func}{s:ChangeSpec}{tb:TypeId}{W J:World}{m:Array Value}{G Q:List (DataW H)}{d:List MemPlace}
  (I:f.resultTypes=#[tb]) (E:P.underlying tb=some .bool) (u:s.vars=[]) (X:laidOutB P=true) (Z:∀t∈f.params.toList,P.readableRec t=true/\t<P.types.size)
  (K:DataW.Whole enc P f.params.toList s.vars false W m.toList G Q d) (y:s.fn H (G++Q)={ results:=[.lit (.bool true)],args:=G }) (T:Below W.1.size W J) :
  s.post enc P f false true false false W m (.bool true) J:=by
 have F:∀p∈d,p.block<W.1.size:=λp Y=>K.lt p Y
 have M:=K;obtain⟨p,q,U,R,rfl,hz,hn⟩:=K;rw[u] at R;obtain⟨rfl,rfl⟩:=trodVars_none R;rw[List.append_nil] at F y;have D:DataW.TrodAll enc P J 0 (λb=>decide (b<W.1.size)) true f.params.toList m.toList G p:=
  q68 X _ _ _ _ Z U (λx O=>T.same (F x O)) (λx O=>by simpa using F x O)
 refine⟨G,[],p++[],[],p,[],M,?_,?_,?_,?_,λh=>by cases h⟩
 ·rw[List.append_nil,y,I];exact trodAll_mk1 (shut_bool E true)
 ·rw[List.append_nil,y];exact D
 ·rw[List.append_nil,y,u];rfl
 ·exact T.frame _
end
theorem ql3 {H:Type}{enc:TypeId × Value->H}{P:Program}{W:World}{t e:TypeId}{v:Value}{d:DataW H}{X:List MemPlace}(Q:P.underlying t=some (.slice e))(I:P.underlying e=some .string)(D:P.cellsOf e=1)
  (R:∃a len cap,v=.slice a len cap) (h:DataW.Trod enc P W 0 (λ_=>true) true t v d X):∃A n c ss,v=.slice A n c/\Ko W A n c ss:=by
 obtain⟨fuel,J⟩:=h;obtain⟨a0,m,E,rfl⟩:=R;rcases open_strings Q I D J with⟨f,_⟩|⟨a,len,cap,G,f,_,M,hm,U,_,p,T⟩
 ·simp[Value.cells] at f;obtain⟨rfl,rfl,rfl⟩:=f;exact⟨_,_,_,[],rfl,qne W⟩
 ·simp[Value.cells] at f;obtain⟨rfl,rfl,rfl⟩:=f;rw[if_pos rfl] at U;refine⟨_,_,_,G.take m,rfl,⟨?_,M,hm,λj u F=>?_⟩,λs O=>T s (List.mem_of_mem_take O)⟩
  ·simp;omega
  ·have K:j<m:=by have:=(List.getElem?_eq_some_iff.1 F).1;simp at this;omega
   have y:j<G.length:=by omega
   have D:=p j y;refine⟨a,rfl,?_,?_⟩
   ·have:=World.block_lt_of_cell? W (a.add j) D;rwa [Ls] at this
   ·rw[D,<-F];rw[List.getElem?_map,List.getElem?_take_of_lt K,List.getElem?_eq_getElem y];simp[List.getD,y]
end
section
open Go.ChangeMaps (setBlock)
def kI (e:MapEntry):Int:=match e.key with|.int _ z=>z|_=>0
def Zf (s:Int):List MapEntry->Option Value
 |[]=>none
 |e::r=>if kI e=s then some e.val else Zf s r
def J3 (s:Int)(v:Value)(c:Nat):List MapEntry->List MapEntry
 |[]=>[{ key:=.int .i64 s,val:=v,born:=c }]
 |e::r=>if kI e=s then { e with key:=.int .i64 s,val:=v }::r else e::J3 s v c r
def Xp (s:Int):List MapEntry->List MapEntry
 |[]=>[]
 |e::r=>if kI e=s then r else e::Xp s r
structure U1 (l:List MapEntry)(clock:Nat):Prop where
 key:∀e∈l,e.key=.int .i64 (kI e)
 one:(l.map kI).Nodup
 born:(l.map (·.born)).Nodup
 clock:∀e∈l,e.born<clock
theorem Qb0 (s:Int)(v:Value)(c:Nat):kI { key:=.int .i64 s,val:=v,born:=c }=s:=rfl
theorem qip {s:Int}{v:Value}:∀{l:List MapEntry},Zf s l=some v->∃e∈l,kI e=s/\e.val=v
 |[],h=>by cases h
 |e::r,h=>by
  unfold Zf at h;split at h
  ·exact⟨e,by simp,by assumption,by simpa using h⟩
  ·obtain⟨x,d,h2⟩:=qip h;exact⟨x,by simp[d],h2⟩
theorem qej {s:Int}:∀{l:List MapEntry},Zf s l=none->∀e∈l,kI e≠s
 |[],_,e,he=>by cases he
 |x::r,h,e,he=>by
  unfold Zf at h;split at h
  ·cases h
  ·rcases List.mem_cons.1 he with rfl|h2
   ·assumption
   ·exact qej h e h2
theorem q5m {l:List MapEntry}(hn:(l.map kI).Nodup){e:MapEntry}(d:e∈l):Zf (kI e) l=some e.val:=by
 induction l with
 |nil=>cases d
 |cons x r ih=>
  unfold Zf;rw[List.map_cons,List.nodup_cons] at hn;rcases List.mem_cons.1 d with rfl|h2
  ·simp
  ·rw[if_neg (λh=>hn.1 (by rw[h];exact List.mem_map.2 ⟨e,h2,rfl⟩))];exact ih hn.2 h2
theorem qcy (s:Int)(v:Value)(c:Nat)(z:Int):∀l:List MapEntry,Zf z (J3 s v c l)=if z=s then some v else Zf z l
 |[]=>by
  unfold J3 Zf;rw[Qb0];by_cases h:s=z
  ·simp[h]
  ·have:¬z=s:=λe=>h e.symm
   simp[h,this,Zf]
 |e::r=>by
  unfold J3;by_cases h:kI e=s
  ·rw[if_pos h];by_cases d:s=z
   ·subst d;simp[Zf,kI]
   ·have f:¬z=s:=λe=>d e.symm
    have m:¬kI e=z:=λe=>d (h.symm.trans e)
    have p:¬kI { e with key:=.int .i64 s,val:=v }=z:=d;unfold Zf;rw[if_neg p,if_neg f,if_neg m]
  ·rw[if_neg h];unfold Zf;rw[qcy s v c z r];by_cases d:kI e=z
   ·have:¬z=s:=λu=>h (d.trans u)
    simp[d,this]
   ·simp[d]
theorem q8q {s:Int}(z:Int):∀{l:List MapEntry},(l.map kI).Nodup->Zf z (Xp s l)=if z=s then none else Zf z l
 |[],_=>by simp[Xp,Zf]
 |e::r,hn=>by
  rw[List.map_cons,List.nodup_cons] at hn;unfold Xp;by_cases h:kI e=s
  ·rw[if_pos h];by_cases d:z=s
   ·rw[if_pos d,d]
    cases m:Zf s r with
    |none=>rfl
    |some v=>
     obtain⟨x,u,h2,_⟩:=qip m;exact absurd (List.mem_map.2 ⟨x,u,h2.trans h.symm⟩) hn.1
   ·rw[if_neg d];have p:Zf z (e::r)=Zf z r:=by
     show (if kI e=z then some e.val else Zf z r)=_;rw[if_neg (λf=>d (f.symm.trans h))]
    exact p.symm
  ·rw[if_neg h];unfold Zf;rw[q8q z hn.2];by_cases d:kI e=z
   ·have:¬z=s:=λf=>h (d.trans f)
    simp[d,this]
   ·simp[d]
theorem q99 {s:Int}{v:Value}{c:Nat}:∀{l:List MapEntry} {e:MapEntry},e∈J3 s v c l->e∈l\/(e.key=.int .i64 s/\(e.born=c\/∃x∈l,x.born=e.born))
 |[],e,h=>by
  simp[J3] at h;subst h;exact .inr ⟨rfl,.inl rfl⟩
 |x::r,e,h=>by
  unfold J3 at h;split at h
  ·rcases List.mem_cons.1 h with rfl|h2
   ·exact .inr ⟨rfl,.inr ⟨x,by simp,rfl⟩⟩
   ·exact .inl (by simp[h2])
  ·rcases List.mem_cons.1 h with rfl|h2
   ·exact .inl (by simp)
   ·rcases q99 h2 with d|⟨d,f⟩
    ·exact .inl (by simp[d])
    ·refine .inr ⟨d,f.imp id λ⟨y,p,m⟩=>⟨y,by simp[p],m⟩⟩
theorem q5n {s:Int}:∀{l:List MapEntry} {e:MapEntry},e∈Xp s l->e∈l
 |[],e,h=>by cases h
 |x::r,e,h=>by
  unfold Xp at h;split at h
  ·simp[h]
  ·rcases List.mem_cons.1 h with rfl|h2
   ·simp
   ·simp[q5n h2]
theorem qgr {s:Int}:∀(l:List MapEntry),List.Sublist (Xp s l) l
 |[]=>.slnil
 |x::r=>by
  unfold Xp;split
  ·exact List.sublist_cons_self ..
  ·exact (qgr r).cons_cons x
theorem qvm {s:Int}{v:Value}{c:Nat}:∀(l:List MapEntry),(J3 s v c l).map kI=if Zf s l=none then l.map kI++[s] else l.map kI
 |[]=>by simp[J3,Zf,kI]
 |x::r=>by
  unfold J3 Zf;by_cases h:kI x=s
  ·rw[if_pos h,if_pos h,if_neg (by simp)];simp[kI] at h ⊢;exact h.symm
  ·rw[if_neg h,if_neg h,List.map_cons,qvm r];split<;>simp
theorem qcz {s:Int}{v:Value}{c:Nat}:∀(l:List MapEntry),(J3 s v c l).map (·.born)=if Zf s l=none then l.map (·.born)++[c] else l.map (·.born)
 |[]=>by simp[J3,Zf]
 |x::r=>by
  unfold J3 Zf;by_cases h:kI x=s
  ·rw[if_pos h,if_pos h,if_neg (by simp)];simp
  ·rw[if_neg h,if_neg h,List.map_cons,qcz r];split<;>simp
theorem qbc {s:Int}:∀(l:List MapEntry),(Xp s l).length=if Zf s l=none then l.length else l.length-1
 |[]=>by simp[Xp,Zf]
 |x::r=>by
  unfold Xp Zf;by_cases h:kI x=s
  ·simp[h]
  ·rw[if_neg h,if_neg h,List.length_cons,qbc r];split
   ·simp
   ·rename_i d;have:0<r.length:=by
     rcases r with _|⟨a,b⟩
     ·exact absurd rfl d
     ·simp
    simp;omega
theorem qsa:U1 [] 0:=⟨by simp,by simp,by simp,by simp⟩
theorem U1.put {l:List MapEntry}{clock:Nat}(h:U1 l clock)(s:Int)(v:Value):U1 (J3 s v clock l) (if Zf s l=none then clock+1 else clock):=by
 have y:∀e∈J3 s v clock l,e.born<clock+1:=λe d=>by
  rcases q99 d with h2|⟨_,h2|⟨x,u,h2⟩⟩
  ·have:=h.clock e h2;omega
  ·omega
  ·have:=h.clock x u;omega
 refine⟨λe d=>?_,?_,?_,λe d=>?_⟩
 ·rcases q99 d with h2|⟨h2,_⟩
  ·exact h.key e h2
  ·unfold kI;rw[h2]
 ·rw[qvm];split
  ·rename_i m;rw[List.nodup_append];refine⟨h.one,by simp,λa p b f=>?_⟩;obtain rfl:b=s:=by simpa using f
   obtain⟨e,d,rfl⟩:=List.mem_map.1 p;exact qej m e d
  ·exact h.one
 ·rw[qcz];split
  ·rw[List.nodup_append];refine⟨h.born,by simp,λa p b f=>?_⟩;obtain rfl:b=clock:=by simpa using f
   obtain⟨e,d,rfl⟩:=List.mem_map.1 p;have:=h.clock e d;show e.born≠b;omega
  ·exact h.born
 ·by_cases m:Zf s l=none
  ·rw[if_pos m];exact y e d
  ·rw[if_neg m];have f:e.born∈(J3 s v clock l).map (·.born):=List.mem_map.2 ⟨e,d,rfl⟩;rw[qcz,if_neg m] at f;obtain⟨x,u,h2⟩:=List.mem_map.1 f;have:=h.clock x u;rw[<-h2];exact this
theorem U1.del {l:List MapEntry}{clock:Nat}(h:U1 l clock)(s:Int):U1 (Xp s l) clock:=
 ⟨λe d=>h.key e (q5n d),h.one.sublist ((qgr l).map kI),h.born.sublist ((qgr l).map _),λe d=>h.clock e (q5n d)⟩
theorem q9a (s:Int):∀(l:List MapEntry) (i:Nat),(∀e∈l,e.key=.int .i64 (kI e))->
  (Instr.findNow (.int .i64) (.int .i64 s) l i=some none/\Zf s l=none/\(∀v c,J3 s v c l=l++[{ key:=.int .i64 s,val:=v,born:=c }])/\Xp s l=l)\/
  ∃j e,Instr.findNow (.int .i64) (.int .i64 s) l i=some (some (i+j,e.val))/\l[j]?=some e/\e.key=.int .i64 s/\Zf s l=some e.val/\
   (∀v c,J3 s v c l=l.modify j λe=>{ e with key:=.int .i64 s,val:=v })/\Xp s l=l.eraseIdx j
 |[],i,_=>.inl ⟨rfl,rfl,λ_ _=>rfl,rfl⟩
 |x::r,i,hk=>by
  have p:=hk x (by simp);by_cases h:kI x=s
  ·refine .inr ⟨0,x,?_,rfl,by rw[p,h],by simp[Zf,h],λv c=>by simp[J3,h],by simp[Xp,h]⟩;rw[Instr.findNow,p,h];simp[Instr.sameNow]
  ·have u:Instr.findNow (.int .i64) (.int .i64 s) (x::r) i=Instr.findNow (.int .i64) (.int .i64 s) r (i+1):=by
    have m:(s==kI x)=false:=by rw[beq_eq_false_iff_ne];exact λe=>h e.symm
    rw[Instr.findNow,p];simp[Instr.sameNow,m]
   rcases q9a s r (i+1) (λe E=>hk e (by simp[E])) with⟨h1,h2,d,f⟩|⟨j,e,h1,h2,d,f,y,D⟩
   ·exact .inl ⟨u.trans h1,by simp[Zf,h,h2],λv c=>by simp[J3,h,d],by simp[Xp,h,f]⟩
   ·refine .inr ⟨j+1,e,by rw[u,h1];congr 3;omega,by simpa using h2,d,by simp[Zf,h,f],λv c=>by simp[J3,h,y],by simp[Xp,h,D]⟩
section
variable {P:Program}{w:World}{t k e b clock:Nat}{l:List MapEntry}
theorem q9b (E:U1 l clock)(u:P.underlying t=some (.map k e))(f:P.underlying k=some (.int .i64)){z:Value}(F:(zeroValue e).run P w=.ok z w)(m:w.1[b]?=some (.map l.toArray clock))(s:Int) :
  (Instr.lookup t (.map (some b)) (.int .i64 s) false).run P w=.ok ((Zf s l).getD z) w:=by
 have p:=λy=>MapKept.run_checkKey (P:=P) (w:=w) f (k:=.int .i64 s) rfl y 9999
 rcases q9a s l 0 E.key with⟨h1,h2,_⟩|⟨j,x,h1,_,_,D,_⟩
 ·have d:=MapKept.run_findKey (P:=P) (w:=w) f h1;simp[Instr.lookup,run_underlying u,MapKept.run_getObj_map m,p,d,F,h2]
 ·have d:=MapKept.run_findKey (P:=P) (w:=w) f h1;simp[Instr.lookup,run_underlying u,MapKept.run_getObj_map m,p,d,D]
theorem q2h (E:U1 l clock)(D:P.underlying t=some (.map k e))(p:P.underlying k=some (.int .i64))(d:w.1[b]?=some (.map l.toArray clock))(s:Int)(v:Value) :
  (Instr.mapUpdate t (.map (some b)) (.int .i64 s) v).run P w=.ok () (setBlock w b (.map (J3 s v clock l).toArray (if Zf s l=none then clock+1 else clock))):=by
 have y:=λF=>MapKept.run_checkKey (P:=P) (w:=w) p (k:=.int .i64 s) rfl F 9999
 rcases q9a s l 0 E.key with⟨h1,h2,m,_⟩|⟨j,x,h1,J,m,G,I,_⟩
 ·have f:=MapKept.run_findKey (P:=P) (w:=w) p h1;simp[Instr.mapUpdate,run_underlying D,MapKept.run_getObj_map d,y,f,h2,m,MapKept.run_setObj_map _ d,setBlock]
 ·have f:=MapKept.run_findKey (P:=P) (w:=w) p h1;rw[Nat.zero_add] at f;have u:(Instr.keyThatStays (.int .i64 s) (.int .i64 s)).run P w=.ok (.int .i64 s) w:=by
   simp[Instr.keyThatStays,Instr.sameBits]
  simp[Instr.mapUpdate,run_underlying D,MapKept.run_getObj_map d,y,f,G,I,J,m,u,MapKept.run_setObj_map _ d,setBlock]
theorem q47 (E:U1 l clock)(y:P.underlying t=some (.map k e))(m:P.underlying k=some (.int .i64))(d:w.1[b]?=some (.map l.toArray clock))(s:Int)(u ty:TypeId) :
  (Builtin.delete_ #[t,u] ty #[.map (some b),.int .i64 s]).run P w=.ok (.tuple #[]) (setBlock w b (.map (Xp s l).toArray clock)):=by
 have p:=λD=>MapKept.run_checkKey (P:=P) (w:=w) m (k:=.int .i64 s) rfl D 9999
 rcases q9a s l 0 E.key with⟨h1,h2,_,F⟩|⟨j,x,h1,J,I,_,_,G⟩
 ·have f:=MapKept.run_findKey (P:=P) (w:=w) m h1;simp[Builtin.delete_,run_underlying y,MapKept.run_getObj_map d,p,f,F,MapKept.run_setObj_map _ d,setBlock]
 ·have f:=MapKept.run_findKey (P:=P) (w:=w) m h1;rw[Nat.zero_add] at f;simp[Builtin.delete_,run_underlying y,MapKept.run_getObj_map d,p,f,G,MapKept.run_setObj_map _ d,setBlock]
end
end
theorem Ig:Ux Tryz.prog 48 5:=⟨Tryz.underlying48,by kernel_rfl⟩
def Tab (w:World):Prop:=1<w.1.size/\∀k:Nat,k<16->w.cell? ⟨1,k,none⟩=some (.int .u32 (Ez k:Nat))
theorem Tab.below {w w':World}{B:Nat}(h:Tab w)(hb:Below B w w')(hB:1<B):Tab w':=
 ⟨by have:=hb.size;have:=h.1;omega,λk d=>(hb.cell (p:=⟨1,k,none⟩) hB).trans (h.2 k d)⟩
theorem qbd (r:Nat)(y:r<4294967296)(w:World)(h:Tab w) :
  Calls Tryz.prog 277 #[.int .u32 (r:Nat)] w λe w'=>e=.returned (.int .u32 (Ez r:Nat))/\w=w':=by
 obtain⟨m,hm⟩:∃m,m=r % 16:=⟨_,rfl⟩;have d:m<16:=by omega
 have f:=h.2 m d;have p:bits .and .u32 (r:Int) 15=(m:Int):=by
  rw[show (15:Int)=((15:Nat):Int) from rfl,u32_and_nat r 15 y (by omega),nat_mask4,hm]
 have u:=Lib.hid hm;clear hm;go_enter Tryz.func277,Tryz.ntmps277
 go_wp2;go_ret;have D:bits .xor .u32 ((r:Int) / 16) (Ez m:Nat)=(Ez r:Nat):=by
  rw[show (r:Int) / 16=((r / 16:Nat):Int) by omega,u32_xor_nat _ _ (by omega) (qij (by omega)),u.out,<-qs6 r]
 exact⟨qgq D,rfl⟩
theorem qsb (r:Nat)(l:List UInt8)(k:Nat)(h:k<l.length):Yb r (l.take (k+1))=Ez (Ez (Yb r (l.take k) ^^^ Ku l k)):=by
 rw[qef l k h,qgp];have:=q96 l k;unfold by8 st8;rw[show (UInt8.ofNat (Ku l k)).toNat=Ku l k by simp;omega]
theorem qsc (s:Nat)(T:s<4294967296)(A:Option Addr)(n c:Nat)(l:List UInt8)(w:World)(m:Sl w A n c l)(U:Tab w) :
  Calls Tryz.prog 254 #[.int .u32 (s:Nat),.slice A n c] w λe w'=>e=.returned (.int .u32 (more s l:Nat))/\w=w':=by
 have hm:=m.max;have hc:=m.cap;unfold maxLen at hm;have Q:=Lib.hid m.len;obtain⟨q,K⟩:∃q,q=4294967295-s:=⟨_,rfl⟩;have R:bits .xor .u32 IntKind.u32.max (s:Int)=(q:Int):=by
  rw[show IntKind.u32.max=((4294967295:Nat):Int) from rfl,u32_xor_nat _ s (by omega) T,Nat.xor_comm,qil T,K]
 have D:q<4294967296:=by omega
 have W:=Lib.hid K;clear K;go_enter Tryz.func254,Tryz.ntmps254
 go_wp2;go_loop [5,12] (λr i=>∃k:Nat,k<=n/\i=.int .i64 k/\r=.int .u32 (Yb q (l.take k):Nat)) (λ_ i=>n-(intOf i).toNat)
 case atStart=>exact⟨0,Nat.zero_le _,rfl,rfl⟩
 case round=>
  obtain⟨k,hk,rfl,rfl⟩:=hrel;have E:=qnc (l.take k) D;by_cases u:k<n
  ·obtain⟨ad,rfl,hb,J⟩:=m.cell u;have Z:=q96 l k;have I:=Lib.hid (qsb q l k (by rw[Q.out];exact u));generalize Yb q (l.take k)=x at E I;have F:bits .xor .u32 (x:Int) (Ku l k:Int)=((x ^^^ Ku l k:Nat):Int):=u32_xor_nat _ _ E (by omega);have M:x ^^^ Ku l k<4294967296:=qnb E (by omega);generalize x ^^^ Ku l k=y at F M I;have G:=qij M;go_wp2_with fail
   refine (qbd y M w U).mono ?_;rintro e w' ⟨rfl,rfl⟩;obtain⟨O,f⟩:∃O,O=Ez y:=⟨_,rfl⟩;rw[<-f] at G I ⊢;have Y:=Lib.hid f;clear f;go_wp2_with fail
   refine (qbd O G w U).mono ?_;rintro e w' ⟨rfl,rfl⟩;go_wp2;exact⟨⟨k+1,by omega,by go_num,by rw[I.out]⟩,by simp[intOf];omega⟩
  ·obtain rfl:k=n:=by omega
   have X:=Lib.hid (show l.take k=l from List.take_of_length_le (by rw[Q.out];omega));have d:bits .xor .u32 IntKind.u32.max (Yb q (l.take k):Int)=((4294967295-Yb q (l.take k):Nat):Int):=by
    rw[show IntKind.u32.max=((4294967295:Nat):Int) from rfl,u32_xor_nat _ _ (by omega) E,Nat.xor_comm,qil E]
   have p:=Lib.hid d;clear d;go_wp2;go_ret;exact⟨qgq (by rw[p.out,X.out,W.out];rfl),rfl⟩
theorem qwa (A:Option Addr)(n c:Nat)(l:List UInt8)(w:World)(h:Sl w A n c l)(d:Tab w) :
  Calls Tryz.prog 241 #[.slice A n c] w λe w'=>e=.returned (.int .u32 (more 0 l:Nat))/\w=w':=by
 go_enter Tryz.func241,Tryz.ntmps241
 go_wp2_with (go_at_call 254;refine (qsc 0 (by omega) A n c l w h d).mono ?_;rintro e w' ⟨rfl,rfl⟩)
 go_ret;exact⟨rfl,rfl⟩
section
open Go.ChangeShapes Go.WideShapes Go.ChangeAt
theorem qek {H:Type}{enc:TypeId × Value->H}{P:Program}{W:World}{base:Nat}{Q:Nat->Bool}{held:Bool}{fuel:Nat}{t e:TypeId}{n:Nat}{k:IntKind}{f:List Value}{zs:List Int}{p:List MemPlace}
  (M:P.underlying t=some (.array n e)) (K:P.underlying e=some (.int k)) (J:P.cellsOf e=1) (h:DataW.trod enc P W base Q held fuel t f=some (.agg (zs.map λz=>.lit (.int k z)),p)) (i:Nat) (hi:i<n):f[i]?=some (.int k (zs.getD i 0)):=by
 obtain⟨xs,m,rfl,E,_,hn,u⟩:=DataW.trod_array M h;have h1:=u i hi;rw[J,Nat.mul_one] at h1;have d:i<xs.length:=by omega
 rw[List.getElem?_eq_getElem d] at h1;obtain⟨z,F,G,_⟩:=DataW.trod_int K h1;simp only[Prod.mk.injEq,DataW.agg.injEq] at E;have h2:=congrArg (λl=>l[i]?) E.1;simp only[List.getElem?_map] at h2;rw[List.getElem?_eq_getElem d,G] at h2;have O:zs[i]?=some z:=by
  cases D:zs[i]? with
  |none=>rw[D] at h2;cases h2
  |some y=>rw[D] at h2;simp only[Option.map_some,Option.some.injEq] at h2;cases h2;rfl
 have I:f[i]?=some (.int k z):=by
  have:=congrArg (λl=>l[0]?) F;simpa [List.getElem?_take,List.getElem?_drop] using this
 rw[I,List.getD_eq_getElem?_getD,O];rfl
theorem qnf {P:Program}{W:World}{name:String}{g:Nat}{t e:TypeId}{n:Nat}{k:IntKind}{zs:List Int}(y:P.globalNamed name=some g)(m:(P.globals[g]?).map (·.type)=some t)
  (G:P.underlying t=some (.array n e)) (F:P.underlying e=some (.int k)) (E:P.cellsOf e=1) (h:laidMet P [(name,.agg (zs.map λz=>.lit (.int k z)))] W) (i:Nat) (hi:i<n):W.cell? ⟨g,i,none⟩=some (.int k (zs.getD i 0)):=by
 obtain⟨M,⟨J,t0,D,I,K,O,f,p,u,d,_,_⟩,_,_⟩:=h;obtain rfl:=Option.some.inj (y.symm.trans f);obtain rfl:=Option.some.inj (m.symm.trans p);rw[World.var?_cell y u i];have:=qek G F E d i hi;simpa using this
end
section
open Go.ChangeShapes Go.WideShapes Go.ChangeAt
theorem Ot:ownKnob Tryz.prog.godebug=none:=by kernel_rfl
theorem Qb4:laidOutB Tryz.prog=true:=by kernel_rfl
abbrev LAID:List (String × DataW Unit):=[("cambium/sum.shifted",Rows.laid_cambium_sum_shifted)]
theorem qsd (os:Os)(d:Array Value):laidMetH Tryz.prog LAID ((World.doorLaid Tryz.prog 400 os).forCall (λ_ _=>0) ⟨#[],d,[]⟩).memory:=
 laidMetH_of_parts3 (fuel:=8) (laidMet_of_run' 8 (by kernel_rfl) (by kernel_rfl)) (by kernel_rfl) (by kernel_rfl)
theorem qse {W:World}(h:laidMetH Tryz.prog LAID W):Tab W:=by
 rw[MakeChecks.laidMetH_plain _ _ _ (by kernel_rfl)] at h;have f:∀k:Nat,k<16->W.cell? ⟨1,k,none⟩=some (.int .u32 (([0,274646895,549293790,820201905,1098587580,1361435347,1640403810,1905808397,2197175160,2460548119,2722870694,2987750089,3280807620,3553878443,3811616794,4084100981]:List Int).getD k 0)):=λk d=>
  qnf (zs:=[0,274646895,549293790,820201905,1098587580,1361435347,1640403810,1905808397,2197175160,2460548119,2722870694,2987750089,3280807620,3553878443,3811616794,4084100981]) (g:=1) (by kernel_rfl) (by kernel_rfl) Tryz.underlying362 Tryz.underlying248 (by kernel_rfl) h k d
 have m:∀k:Nat,k<16->([0,274646895,549293790,820201905,1098587580,1361435347,1640403810,1905808397,2197175160,2460548119,2722870694,2987750089,3280807620,3553878443,3811616794,4084100981]:List Int).getD k 0=(Ez k:Nat):=by decide +kernel
 exact⟨by have:=World.block_lt_of_cell? W _ (f 0 (by omega));exact this,λk d=>by rw[f k d,m k d]⟩
end
