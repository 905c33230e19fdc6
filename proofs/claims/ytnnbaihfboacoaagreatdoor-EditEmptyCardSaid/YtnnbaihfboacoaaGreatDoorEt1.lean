/- Words for slices whose cells are read, over the kit's library; nothing here speaks of one  -/
import Derived.Test.YtnnbaihfboacoaaGreatDoorCrc
import Derived.WalkKit
import Derived.Deep.Draws
import Derived.Deep.AppendLies
import Derived.Maps.AppendAt
import Derived.Lib.ConvBytes
import Derived.Test.YtnnbaihfboacoaaGreatDoorRows
import Derived.ProofKit
import Derived.OpenShut
import Derived.Carry
import Derived.ChangeSame
import Derived.SizedLaws
import Derived.SliceStrings
import Derived.ChangeMaps5
import Derived.Maps.RangeRun
import Derived.Maps.Keyed
import Derived.Laws.BitsAll
import Derived.Lib.SlBytesConst
import Derived.LaidMore
import Derived.LaidHandle
import Derived.MakeChecks
import Derived.Deep.Matrix
import Derived.Stop.Joined
namespace Go.Proofs.YtnnbaihfboacoaaGreatDoor
open Go Go.RowKit Go.Proofs
set_option maxHeartbeats 400000
theorem Qm {w:World}{o:Obj}:Below w.1.size w (w.alloc o):=(Below.refl _ _).alloc (Nat.le_refl _) _
theorem q9h {k:IntKind}{a b:Int}(h:a=b):Ending.returned (.int k a)=.returned (.int k b):=by rw[h]
def bv (b:UInt8):Value:=.int .u8 (b.toNat:Int)
def Wh (l:List UInt8)(k:Nat):Nat:=(l.getD k 0).toNat
theorem q9i (l:List UInt8)(k:Nat):Wh l k<=255:=by have:=(l.getD k 0).toNat_lt;unfold Wh;omega
theorem qez (l:List UInt8)(k:Nat)(h:k<l.length):l.take (k+1)=l.take k++[UInt8.ofNat (Wh l k)]:=by
 rw[List.take_succ_eq_append_getElem h];simp[Wh,List.getD,h]
theorem q0n (a:Addr)(n:Nat):(a.add n).block=a.block:=by unfold Addr.add;split<;>rfl
theorem qj7 (a:Addr)(i j:Nat):(a.add i).add j=a.add (i+j):=by
 unfold Addr.add;by_cases d:i=0<;>by_cases f:j=0<;>simp[d,f,Nat.add_assoc]
def Holds (w:World)(B:Nat)(A:Option Addr)(n c:Nat)(xs:List Value):Prop:=
 xs.length=n/\n<=c/\c<=maxLen/\∀(j:Nat) u,xs[j]?=some u->∃d,A=some d/\d.block<B/\w.cell? (d.add j)=some u
def Sl (w:World)(A:Option Addr)(n c:Nat)(l:List UInt8):Prop:=Holds w w.1.size A n c (l.map bv)
section
variable {w w':World}{B B' n c:Nat}{A:Option Addr}{xs:List Value}
theorem Holds.len (h:Holds w B A n c xs):xs.length=n:=h.1
theorem Holds.keep (h:Holds w B A n c xs)(hk:∀p:Addr,p.block<B->w'.cell? p=w.cell? p):Holds w' B A n c xs:=
 ⟨h.1,h.2.1,h.2.2.1,λj u f=>by
  obtain⟨m,e,d,y⟩:=h.2.2.2 j u f;exact⟨m,e,d,(hk _ (by rw[q0n];exact d)).trans y⟩⟩
theorem Holds.more (h:Holds w B A n c xs)(hB:B<=B'):Holds w B' A n c xs:=
 ⟨h.1,h.2.1,h.2.2.1,λj u d=>by
  obtain⟨f,e,p,m⟩:=h.2.2.2 j u d;exact⟨f,e,by omega,m⟩⟩
theorem Holds.below (h:Holds w B A n c xs)(hb:Below B w w'):Holds w' B A n c xs:=h.keep λ_ d=>hb.cell d
end
section
variable {w w':World}{n c:Nat}{A:Option Addr}{l:List UInt8}
theorem Sl.len (h:Sl w A n c l):l.length=n:=by simpa using h.1
theorem Sl.cap (h:Sl w A n c l):n<=c:=h.2.1
theorem Sl.max (h:Sl w A n c l):c<=maxLen:=h.2.2.1
theorem Sl.below (h:Sl w A n c l)(hb:Below w.1.size w w'):Sl w' A n c l:=(Holds.below h hb).more hb.size
theorem Sl.drew (h:Sl w A n c l):Sl w.drew A n c l:=h
theorem Sl.drewN (h:Sl w A n c l)(k:Nat):Sl (w.drewN k) A n c l:=h
theorem Sl.cell (h:Sl w A n c l){k:Nat}(hk:k<n):∃d,A=some d/\d.block<w.1.size/\w.cell? (d.add k)=some (.int .u8 (Wh l k:Int)):=by
 have f:k<l.length:=by have:=h.len;omega
 obtain⟨d,e,m,p⟩:=h.2.2.2 k (bv l[k]) (by simp[f]);exact⟨d,e,m,by rw[p];unfold Wh bv;rw[List.getD_eq_getElem?_getD,List.getElem?_eq_getElem f];rfl⟩
theorem Sl.take (h:Sl w A n c l){k:Nat}(hk:k<=n):Sl w A k c (l.take k):=by
 refine⟨by have:=h.len;simp;omega,by have:=h.cap;omega,h.max,λj u d=>h.2.2.2 j u ?_⟩;rw[List.map_take,List.getElem?_take] at d;split at d
 ·exact d
 ·cases d
theorem Sl.drop (h:Sl w A n c l){k:Nat}(hk:k<=n):Sl w (if c=k then A else A.map (·.add k)) (n-k) (c-k) (l.drop k):=by
 refine⟨by have:=h.len;simp;omega,by have:=h.cap;omega,by have:=h.max;omega,λj u d=>?_⟩;rw[List.map_drop,List.getElem?_drop] at d;obtain⟨m,rfl,f,p⟩:=h.2.2.2 _ u d;have y:k+j<n:=by
  have:=h.1;have h2:=(List.getElem?_eq_some_iff.1 d).1;omega
 rw[if_neg (by have:=h.cap;omega)];exact⟨m.add k,rfl,by rw[q0n];exact f,by rw[qj7];exact p⟩
end
structure Y0 (P:Program)(t e:TypeId):Prop where
 sl:P.underlying t=some (.slice e)
 info:(P.info? e).map (λi=>(i.zero,i.size,i.bytes))=some (some (.int .u8 0),1,1)
def Own (w:World)(base:Nat)(e:TypeId)(A:Option Addr)(n c:Nat)(l:List UInt8):Prop:=w.ownsRow base e 1 (.slice A n c) n (l.map bv)
theorem qf0 (l:List UInt8):∀u∈l.map bv,u.oneCell'=true:=by
 intro u d;obtain⟨_,_,rfl⟩:=List.mem_map.1 d;rfl
section
variable {w w':World}{base n c:Nat}{e:TypeId}{A:Option Addr}{l:List UInt8}
theorem Own.len (h:Own w base e A n c l):l.length=n:=by have:=h.1;simpa using this
theorem Own.sl (h:Own w base e A n c l):Sl w A n c l:=by
 refine⟨by have:=h.len;simpa using this,?_,?_,λj u p=>?_⟩
 ·rcases h.2 with⟨d,rfl⟩|⟨g,cap,f,d,_,_,h1,h2,_⟩
  ·omega
  ·injection d with _ _ m;omega
 ·rcases h.2 with⟨d,rfl⟩|⟨g,cap,f,d,_,_,h1,h2,_⟩
  ·injection d with _ _ m;unfold maxLen;omega
  ·injection d with _ _ m;omega
 ·rcases h.2 with⟨d,rfl⟩|⟨g,cap,f,d,E,y,h1,h2,m,F⟩
  ·have:=h.len;have h0:=(List.getElem?_eq_some_iff.1 p).1;simp at h0;omega
  ·have D:A=some ⟨g,0,none⟩:=by injection d
   subst D;exact⟨_,rfl,(Array.getElem?_eq_some_iff.1 y).1,h.cells (g:=g) rfl j u p⟩
theorem Own.block (h:Own w base e A n c l):∀d,A=some d->base<=d.block/\d.block<w.1.size:=by
 intro d f;subst f;exact h.lt d.block rfl
theorem Own.at_ {g:Nat}(h:Own w base e (some ⟨g,0,none⟩) n c l)(j:Nat)(hj:j<n):w.cell? ⟨g,j,none⟩=some (.int .u8 (Wh l j:Int))/\w.frozen? ⟨g,j,none⟩=false:=by
 have d:=h.len;refine⟨?_,World.ownsRow.frozenAt h j⟩;rw[World.ownsRow.cellAt h j (by omega),List.getElem?_map,List.getElem?_eq_getElem (by omega)];unfold Wh;rw[List.getD_eq_getElem?_getD,List.getElem?_eq_getElem (by omega)];rfl
theorem Own.Vr {g:Nat}(h:Own w base e (some ⟨g,0,none⟩) n c l)(j:Nat)(b:UInt8):Own (w.setCell ⟨g,j,none⟩ (bv b)) base e (some ⟨g,0,none⟩) n c (l.set j b):=by
 unfold Own;rw[List.map_set];exact (World.ownsRow.stored h j (bv b)).1
theorem Own.less {b:Nat}(h:Own w base e A n c l)(hb:b<=base):Own w b e A n c l:=by
 refine⟨h.1,?_⟩;rcases h.2 with d|⟨g,cap,f,d,h1,r⟩
 ·exact .inl d
 ·exact .inr ⟨g,cap,f,d,Nat.le_trans hb h1,r⟩
theorem Own.drew (h:Own w base e A n c l):Own w.drew base e A n c l:=h
theorem Own.below (h:Own w base e A n c l)(hb:Below w.1.size w w'):Own w' base e A n c l:=by
 refine⟨h.1,?_⟩;rcases h.2 with d|⟨g,cap,f,d,h1,m,r⟩
 ·exact .inl d
 ·exact .inr ⟨g,cap,f,d,h1,(hb.block g (Array.getElem?_eq_some_iff.1 m).1).trans m,r⟩
end
section
variable {P:Program}{t e:TypeId}(w:World)
theorem qnh (n:Nat):(madeCells (Value.int .u8 0).cells (n*1)).toList=(List.replicate n (0:UInt8)).map bv:=by
 rw[show (Value.int .u8 0).cells=#[.int .u8 0] from rfl,Nat.mul_one,toList_madeCells_one];simp[bv]
theorem qf1 (T:Y0 P t e){f:Array Oper}{d:List Oper}{o:Oper}{a:Act}{Q:Exit->Act->World->Prop}
  (F:o.guard=none) (l c:Operand) (y:o.op=Op.makeSlice t l c) (D kc:IntKind) (n:Nat) (I:a.eval l=.int D (n:Int)) (J:a.eval c=.int kc (n:Int)) (K:n<=281474976710656)
  (G:∀w',Own w' w.1.size e (some ⟨w.1.size,0,none⟩) n n (List.replicate n 0)->Below w.1.size w w'->wpList P f Q d (a.put o.dst (.slice (some ⟨w.1.size,0,none⟩) n n)) w') :
  wpList P f Q (o::d) a w:=by
 obtain⟨i,E,p,m,u⟩:=info_parts T.info;refine wpList_make_full w F l c t y w.1.size e i _ 1 T.sl E p m D kc _ _ n I J rfl rfl (by rw[u];omega) (by unfold maxLen;omega) (Nat.le_refl _) λw' h1 h2=>?_
 refine G w' ?_ ((Below.refl _ _).grown h2 (Nat.le_refl _) (by simp));unfold Own;rw[<-qnh];exact h1
theorem qf2 (T:Y0 P t e){f:Array Oper}{d:List Oper}{o:Oper}{a:Act}{Q:Exit->Act->World->Prop}
  (F:o.guard=none) (l c:Operand) (y:o.op=Op.makeSlice t l c) (D kc:IntKind) (n:Nat) (I:a.eval l=.int D 0) (J:a.eval c=.int kc (n:Int)) (K:n<=281474976710656)
  (G:∀w',Own w' w.1.size e (some ⟨w.1.size,0,none⟩) 0 n []->Below w.1.size w w'->wpList P f Q d (a.put o.dst (.slice (some ⟨w.1.size,0,none⟩) 0 n)) w') :
  wpList P f Q (o::d) a w:=by
 obtain⟨i,E,p,m,u⟩:=info_parts T.info;refine wpList_make_own w F l c t y w.1.size e i _ 1 T.sl E p m D kc _ n I J rfl (by rw[u];omega) (by unfold maxLen;omega) (Nat.le_refl _) λw' h1 h2=>?_
 exact G w' h1 ((Below.refl _ _).grown h2 (Nat.le_refl _) (by simp))
theorem q6g (T:Y0 P t e)(ty:TypeId)(base:Nat)(A:Option Addr)(n c:Nat)(l:List UInt8)(f:Own w base e A n c l)
  (B:Option Addr) (m d:Nat) (D:List UInt8) (J:Sl w B m d D) (a1:n+m<=140737488355328) (p:base<=w.1.size) :
  ∃G F w',(Builtin.append_ #[t,t] ty #[.slice A n c,.slice B m d]).run P w=.ok (.slice G (n+m) F) w'/\Own w' base e G (n+m) F (l++D)/\Below base w w'/\
   w.grownBy w' (Value.ownBlock (.slice A n c)):=by
 obtain⟨i,Q,W,R,X⟩:=info_parts T.info;have fin:∀E w',(Builtin.append_ #[t,t] ty #[.slice A n c,.slice B m d]).run P w=.ok E w'->w'.ownsRow base e 1 E (n+m) (l.map bv++D.map bv)->
   w.grownBy w' (Value.ownBlock (.slice A n c))->∃G F w',(Builtin.append_ #[t,t] ty #[.slice A n c,.slice B m d]).run P w=.ok (.slice G (n+m) F) w'/\Own w' base e G (n+m) F (l++D)/\Below base w w'/\
   w.grownBy w' (Value.ownBlock (.slice A n c)):=by
  intro E w' h1 h2 I;have Y:Below base w w':=(Below.refl _ _).grown I p (λk hk=>(f.lt k hk).1);rw[<-List.map_append] at h2;rcases h2.2 with⟨rfl,h0⟩|⟨g,cap,U,rfl,_⟩
  ·exact⟨none,0,w',by rw[h1,h0],by unfold Own;rw[h0] at h2 ⊢;exact h2,Y,I⟩
  ·exact⟨_,_,w',h1,h2,Y,I⟩
 rcases B with _|K
 ·have hm:m=0:=by
   rcases Nat.eq_zero_or_pos m with h0|h0
   ·exact h0
   ·obtain⟨K,h,_⟩:=J.cell h0
    cases h
  subst hm;have hn:D=[]:=List.eq_nil_of_length_eq_zero J.len;subst hn;refine fin (.slice A n c) w ?_ (by rw[Nat.add_zero,List.map_nil,List.append_nil];exact f) (World.grownBy.refl w _);rcases f.2 with⟨M,rfl⟩|⟨g,cap,U,M,_,_,O,_⟩
  ·rw[M];simp[Builtin.append_,run_underlying T.sl,sizeOf,typeInfo,Q,Builtin.lenOf,Builtin.firstCells]
  ·rw[M];simp[Builtin.append_,run_underlying T.sl,sizeOf,typeInfo,Q,Builtin.lenOf,Builtin.firstCells,O,storeCells]
 ·have y:∀j u,(D.map bv)[j]?=some u->w.cell? (K.add j)=some u:=by
   intro j u hu;obtain⟨Z,h,_,hc⟩:=J.2.2.2 j u hu;injection h with h;subst h;exact hc
  obtain⟨E,w',h1,h2,I,_,_⟩:=run_append_own_at (P:=P) w base t ty e i _ 1 1 T.sl Q W R X rfl (by omega) _ n _ f K m d (D.map bv) (by have:=J.len;simpa using this) y (qf0 _) (by unfold maxLen;omega) (by omega) p;exact fin E w' h1 h2 I
theorem q9j (T:Y0 P t e){u:Array Oper}{f:List Oper}{o:Oper}{a:Act}{Q:Exit->Act->World->Prop}(G:o.guard=none)(s x:Operand)
  (W:o.op=.call { callee:=.builtin .append,args:=#[s,x],argTypes:=#[t,t] })
  (base:Nat) (A:Option Addr) (n c:Nat) (l:List UInt8) (R:a.eval s=.slice A n c) (y:Own w base e A n c l)
  (B:Option Addr) (m d:Nat) (I:List UInt8) (O:a.eval x=.slice B m d) (M:Sl w B m d I) (J:n+m<=140737488355328) (p:base<=w.1.size)
  (h:∀E F w',Own w' base e E (n+m) F (l++I)->Below base w w'->wpList P u Q f (a.put o.dst (.slice E (n+m) F)) w'):wpList P u Q (o::f) a w:=
 wpList_plain G λK U=>by
  obtain⟨E,F,w',D,h2,X,_⟩:=q6g (P:=P) w T o.type base A n c l y B m d I M J p;unfold Oper.wp execOp;simp only[W,resolve,invoke,builtin,Sem.run_bind,Sem.run_pure,Result.andThen_ok,List.map_toArray,List.map_cons,List.map_nil,R,O,D];exact U _ _ (h E F w' h2 X)
end
def nth (ls:List (List UInt8))(j:Nat):List UInt8:=ls.getD j []
def Parts (w:World)(A:Option Addr)(k c:Nat)(ls:List (List UInt8)):Prop:=
 ls.length=k/\k<=c/\c<=maxLen/\∀(j:Nat) l,ls[j]?=some l->∃f B n d,A=some f/\f.block<w.1.size/\w.cell? (f.add j)=some (.slice B n d)/\Sl w B n d l
section
variable {w w':World}{k c:Nat}{A:Option Addr}{ls:List (List UInt8)}
theorem Parts.len (h:Parts w A k c ls):ls.length=k:=h.1
theorem Parts.below (h:Parts w A k c ls)(hb:Below w.1.size w w'):Parts w' A k c ls:=
 ⟨h.1,h.2.1,h.2.2.1,λj l y=>by
  obtain⟨p,B,n,d,e,f,u,m⟩:=h.2.2.2 j l y;exact⟨p,B,n,d,e,Nat.lt_of_lt_of_le f hb.size,(hb.cell (by rw[q0n];exact f)).trans u,m.below hb⟩⟩
theorem Parts.cell (h:Parts w A k c ls){j:Nat}(hj:j<k):∃f B n d,A=some f/\f.block<w.1.size/\w.cell? (f.add j)=some (.slice B n d)/\Sl w B n d (nth ls j):=by
 have p:j<ls.length:=by have:=h.1;omega
 have m:ls[j]?=some (nth ls j):=by simp[nth,List.getD,p]
 exact h.2.2.2 j _ m
end
def cat (ls:List (List UInt8))(j:Nat):List UInt8:=(ls.take j).flatten
def tot (ls:List (List UInt8))(j:Nat):Nat:=(cat ls j).length
theorem qs7 (ls:List (List UInt8)):cat ls 0=[]:=by simp[cat]
theorem qs8 (ls:List (List UInt8)):tot ls 0=0:=by simp[tot,cat]
theorem qj8 (ls:List (List UInt8))(k:Nat)(h:k<ls.length):cat ls (k+1)=cat ls k++nth ls k:=by
 unfold cat nth;rw[List.take_succ_eq_append_getElem h,List.flatten_append];simp[List.getD,h]
theorem qj9 (ls:List (List UInt8))(k:Nat)(h:k<ls.length):tot ls (k+1)=tot ls k+(nth ls k).length:=by
 unfold tot;rw[qj8 ls k h,List.length_append]
theorem quz (ls:List (List UInt8))(k m:Nat)(h:k<=m):tot ls k<=tot ls m:=by
 unfold tot cat;have e:(ls.take m).flatten=(ls.take k).flatten++((ls.take m).drop k).flatten:=by
  rw[<-List.flatten_append];congr 1
  have h2:=List.take_append_drop k (ls.take m);rw[List.take_take,Nat.min_eq_left h] at h2;exact h2.symm
 rw[e,List.length_append];omega
theorem Sl.alloc {w:World}{A:Option Addr}{n c:Nat}{l:List UInt8}(h:Sl w A n c l)(o:Obj):Sl (w.alloc o) A n c l:=h.below ((Below.refl _ _).alloc (Nat.le_refl _) o)
theorem q63 (w:World)(d:Array Value)(t:TypeId)(j:Nat):(w.alloc (.cells d t)).cell? ((⟨w.1.size,0,none⟩:Addr).add j)=d[j]?:=by
 rw[Addr.add_lit,Nat.zero_add];exact cell_of_row (w.alloc (.cells d t)) w.1.size j d t (0,0) (heap_alloc_new w _)
theorem Cc {w:World}(t:TypeId){B:Option Addr}{n d:Nat}{l:List UInt8}(h:Sl w B n d l):Parts (w.alloc (.cells #[.slice B n d] t)) (some ⟨w.1.size,0,none⟩) 1 1 [l]:=by
 refine⟨rfl,Nat.le_refl _,by unfold maxLen;omega,λj m f=>?_⟩;rcases j with _|j
 ·obtain rfl:l=m:=by simpa using f
  exact⟨_,B,n,d,rfl,by simp,q63 w _ t 0,h.alloc _⟩
 ·simp at f
theorem Qbi {w:World}(t:TypeId){B u:Option Addr}{n d p m:Nat}{l f:List UInt8}(h:Sl w B n d l)(h2:Sl w u p m f) :
  Parts (w.alloc (.cells #[.slice B n d,.slice u p m] t)) (some ⟨w.1.size,0,none⟩) 2 2 [l,f]:=by
 refine⟨rfl,Nat.le_refl _,by unfold maxLen;omega,λj D y=>?_⟩;rcases j with _|_|j
 ·obtain rfl:l=D:=by simpa using y
  exact⟨_,B,n,d,rfl,by simp,q63 w _ t 0,h.alloc _⟩
 ·obtain rfl:f=D:=by simpa using y
  exact⟨_,u,p,m,rfl,by simp,q63 w _ t 1,h2.alloc _⟩
 ·simp at y
theorem Qbj {w:World}(t:TypeId){B G y:Option Addr}{n d F D I u:Nat}{l p E:List UInt8}(h:Sl w B n d l)(h2:Sl w G F D p)(J:Sl w y I u E) :
  Parts (w.alloc (.cells #[.slice B n d,.slice G F D,.slice y I u] t)) (some ⟨w.1.size,0,none⟩) 3 3 [l,p,E]:=by
 refine⟨rfl,Nat.le_refl _,by unfold maxLen;omega,λj m f=>?_⟩;rcases j with _|_|_|j
 ·obtain rfl:l=m:=by simpa using f
  exact⟨_,B,n,d,rfl,by simp,q63 w _ t 0,h.alloc _⟩
 ·obtain rfl:p=m:=by simpa using f
  exact⟨_,G,F,D,rfl,by simp,q63 w _ t 1,h2.alloc _⟩
 ·obtain rfl:E=m:=by simpa using f
  exact⟨_,y,I,u,rfl,by simp,q63 w _ t 2,J.alloc _⟩
 ·simp at f
theorem Qal (l:List UInt8):cat [l] 1=l:=by simp[cat]
theorem Qcn (l d:List UInt8):cat [l,d] 2=l++d:=by simp[cat]
theorem Qco (l d f:List UInt8):cat [l,d,f] 3=l++(d++f):=by simp[cat]
theorem Qav (l:List UInt8):tot [l] 1=l.length:=by simp[tot,cat]
theorem Qct (l d:List UInt8):tot [l,d] 2=l.length+d.length:=by simp[tot,cat]
theorem Qcu (l d f:List UInt8):tot [l,d,f] 3=l.length+(d.length+f.length):=by simp[tot,cat]
theorem q2s (w:World)(e:TypeId):Own (w.alloc (.cells #[] e)) w.1.size e (some ⟨w.1.size,0,none⟩) 0 0 []:=
 World.ownsRow_lit (size:=1) w #[] 0 (Nat.le_refl _) (Nat.zero_le _) rfl
theorem Own.alloc {w:World}{base:Nat}{e:TypeId}{A:Option Addr}{n c:Nat}{l:List UInt8}(h:Own w base e A n c l)(o:Obj):Own (w.alloc o) base e A n c l:=
 h.below ((Below.refl _ _).alloc (Nat.le_refl _) o)
theorem q1g {B:Nat}{a w:World}(h:Below B a w)(n:Nat):Below B a (w.drewN n):=⟨h.os,h.tape,h.output,h.size,h.block⟩
theorem qle (l:List UInt8)(b:ByteArray):(l.map (λx:UInt8=>(x.toNat:Int))).foldl (λr n=>r.push (UInt8.ofNat n.toNat)) b=⟨b.data++l.toArray⟩:=by
 induction l generalizing b with
 |nil=>simp
 |cons x l ih=>
  rw[List.map_cons,List.foldl_cons,ih];have e:UInt8.ofNat ((x.toNat:Int)).toNat=x:=by simp
  rw[e]
  cases b;simp[ByteArray.push]
theorem q64 {P:Program}(src d e:TypeId)(T:Y0 P src e)(y:P.underlying e=some (.int .u8))(hd:P.underlying d=some .string){w:World}{A:Option Addr}{n c:Nat}{l:List UInt8}(h:Sl w A n c l) :
  (convert src d (.slice A n c)).run P w=.ok (.string ⟨l.toArray⟩) w:=by
 rw[run_convert_bytes_string w src d e A n c T.sl y hd];rcases A with _|a
 ·have F:l=[]:=by
   rcases l with _|⟨x,l⟩
   ·rfl
   ·obtain⟨D,f,_⟩:=h.2.2.2 0 (bv x) rfl
    cases f
  subst F;simp[Conv.bytesToString,Sem.run_pure];rfl
 ·have m:∀(j:Nat) v,(l.map bv)[j]?=some v->w.cell? (a.add j)=some v:=λj u p=>by
   obtain⟨D,f,_,m⟩:=h.2.2.2 j u p;injection f with f;subst f;exact m
  have h2:=run_loadCells_list (P:=P) w a (l.map bv) m;rw[List.length_map,h.len] at h2;have E:l.map bv=(l.map (λx:UInt8=>(x.toNat:Int))).map (Value.int .u8):=by simp[bv,Function.comp_def]
  rw[E] at h2;rw[run_bytesToString w a n c _ h2,qle];simp[ByteArray.empty,ByteArray.emptyWithCapacity];rfl
theorem qbt (w:World)(e:TypeId)(s:ByteArray)(h:s.size<=maxLen):Sl (Lib.bytesWorld w e s) (some ⟨w.1.size,0,none⟩) s.size (grownCap w s.size 0 e) s.data.toList:=by
 refine⟨by simp,grownCap_ge _ _ _ _,grownCap_le_maxLen _ _ _ _ h,λj u f=>⟨_,rfl,by rw[Lib.bytesWorld_size];simp,?_⟩⟩;have m:j<s.size:=by have:=(List.getElem?_eq_some_iff.1 f).1;simpa using this
 rw[Addr.add_lit,Nat.zero_add,Lib.bytesWorld_cell w e s j m];have d:j<s.data.toList.length:=by simpa using m
 rw[List.getElem?_map,List.getElem?_eq_getElem d] at f;rw[<-f,List.getD_eq_getElem?_getD,List.getElem?_eq_getElem d];rfl
theorem q6h (w:World)(e:TypeId)(s:ByteArray):Below w.1.size w (Lib.bytesWorld w e s):=
 ⟨rfl,rfl,rfl,by rw[Lib.bytesWorld_size];omega,λk d=>Lib.bytesWorld_at_old w e s k d⟩
theorem q24 (w:World):Sl w none 0 0 []:=⟨rfl,Nat.le_refl _,Nat.zero_le _,λj u d=>by simp at d⟩
section
variable {P:Program}{t e:TypeId}(w:World)
theorem qbn (T:Y0 P t e)(ty:TypeId)(base g:Nat)(F:Own w base e (some ⟨g,0,none⟩) 0 0 [])
  (B:Option Addr) (m d:Nat) (D:List UInt8) (E:Sl w B m d D) (Z:m<=140737488355328) (y:base<=w.1.size) :
  ∃U R w',(Builtin.append_ #[t,t] ty #[.slice (some ⟨g,0,none⟩) 0 0,.slice B m d]).run P w=.ok (.slice U m R) w'/\Own w' base e U m R D/\Below w.1.size w w':=by
 obtain⟨i,J,M,K,O⟩:=info_parts T.info;rcases Nat.eq_zero_or_pos m with h0|h0
 ·subst h0;have hn:D=[]:=List.eq_nil_of_length_eq_zero E.len;subst hn;refine⟨some ⟨g,0,none⟩,0,w,?_,F,Below.refl _ _⟩;rcases B with _|G
  ·simp[Builtin.append_,run_underlying T.sl,sizeOf,typeInfo,J,Builtin.lenOf,Builtin.firstCells,storeCells]
  ·simp[Builtin.append_,run_underlying T.sl,sizeOf,typeInfo,J,Builtin.lenOf,Builtin.firstCells,storeCells,loadCells,loadCellsFrom]
 ·obtain⟨G,rfl,_⟩:=E.cell h0;have f:∀j u,(D.map bv)[j]?=some u->w.cell? (G.add j)=some u:=by
   intro j u X;obtain⟨W,h,_,Y⟩:=E.2.2.2 j u X;injection h with h;subst h;exact Y
  have I:(D.map bv).length=m:=by have:=E.len;simpa using this
  have p:=run_append_grow (P:=P) w t ty e i _ T.sl J M ⟨g,0,none⟩ 0 0 [] (by simp) (by simp) G m d (D.map bv) (by rw[K,I];omega) f (by omega) (by omega) (growslice_fits (by omega) (by rw[O];omega));rw[Nat.zero_add] at p;have Q:=grownCap_ge w m 0 e;refine⟨_,_,_,p,⟨by rw[I];omega,.inr ⟨w.1.size,_,_,rfl,y,heap_alloc_new w.drew _,Q,grownCap_le_maxLen w m 0 e (by unfold maxLen;omega),?_,?_⟩⟩,(Below.refl _ _).drew.alloc (Nat.le_refl _) _⟩
  ·simp only[Array.size_append,List.size_toArray,size_zeroCells,List.length_nil,I,show (Value.int .u8 0).cells.size=1 from rfl];omega
  ·simp only[Array.toList_append,List.nil_append];rw[List.take_append_of_le_length (by simp;have:=E.len;omega)];simp[List.take_of_length_le,E.len]
theorem q5z (T:Y0 P t e){o:Oper}{a:Act}{K:Act->World->Prop}{Q:Exit->Act->World->Prop}(s x:Operand)
  (M:o.op=.call { callee:=.builtin .append,args:=#[s,x],argTypes:=#[t,t] })
  (base g:Nat) (J:a.eval s=.slice (some ⟨g,0,none⟩) 0 0) (p:Own w base e (some ⟨g,0,none⟩) 0 0 [])
  (B:Option Addr) (m d:Nat) (E:List UInt8) (I:a.eval x=.slice B m d) (G:Sl w B m d E) (F:m<=140737488355328) (f:base<=w.1.size)
  (h:∀y D w',Own w' base e y m D E->Below w.1.size w w'->K (a.put o.dst (.slice y m D)) w'):o.wp P a w K Q:=by
 obtain⟨y,D,w',u,h2,O⟩:=qbn (P:=P) w T o.type base g p B m d E G F f;unfold Oper.wp execOp;simp only[M,resolve,invoke,builtin,Sem.run_bind,Sem.run_pure,Result.andThen_ok,List.map_toArray,List.map_cons,List.map_nil,J,I,u];exact h y D w' h2 O
theorem q3y (T:Y0 P t e){y:Array Oper}{f:List Oper}{o:Oper}{a:Act}{Q:Exit->Act->World->Prop}(F:o.guard=none)(s x:Operand)
  (O:o.op=.call { callee:=.builtin .append,args:=#[s,x],argTypes:=#[t,t] })
  (base g:Nat) (K:a.eval s=.slice (some ⟨g,0,none⟩) 0 0) (u:Own w base e (some ⟨g,0,none⟩) 0 0 [])
  (B:Option Addr) (m d:Nat) (G:List UInt8) (R:a.eval x=.slice B m d) (J:Sl w B m d G) (I:m<=140737488355328) (p:base<=w.1.size)
  (h:∀D E w',Own w' base e D m E G->Below w.1.size w w'->wpList P y Q f (a.put o.dst (.slice D m E)) w'):wpList P y Q (o::f) a w:=
 wpList_plain F λ_ M=>q5z w T s x O base g K u B m d G R J I p λD E w' h1 h2=>M _ _ (h D E w' h1 h2)
theorem q1x (T:Y0 P t e){F:Array Oper}{o:Oper}{a:Act}{K:Act->World->Prop}{Q:Exit->Act->World->Prop}{E:Prop}(u:o.guard=none)(s x:Operand)
  (O:o.op=.call { callee:=.builtin .append,args:=#[s,x],argTypes:=#[t,t] })
  (base g:Nat) (M:a.eval s=.slice (some ⟨g,0,none⟩) 0 0) (p:Own w base e (some ⟨g,0,none⟩) 0 0 [])
  (B:Option Addr) (m d:Nat) (y:List UInt8) (R:a.eval x=.slice B m d) (J:Sl w B m d y) (D:m<=140737488355328) (f:base<=w.1.size)
  (h:∀G I w',Own w' base e G m I y->Below w.1.size w w'->K (a.put o.dst (.slice G m I)) w') :
  if Region.wanted o (yielded F a.tmps)=true then Oper.wp P o a w K Q else E:=by
 rw[if_pos (by simp[Region.wanted,u])];exact q5z w T s x O base g M p B m d y R J D f h
end
def txt (ss:List ByteArray)(k:Nat):ByteArray:=ss.getD k ByteArray.empty
def Ue (w:World)(A:Option Addr)(n c:Nat)(ss:List ByteArray):Prop:=
 Holds w w.1.size A n c (ss.map Value.string)/\∀s∈ss,s.size<=maxLen
section
variable {w w':World}{n c:Nat}{A:Option Addr}{ss:List ByteArray}
theorem Ue.len (h:Ue w A n c ss):ss.length=n:=by simpa using h.1.1
theorem Ue.cap (h:Ue w A n c ss):n<=c:=h.1.2.1
theorem Ue.max (h:Ue w A n c ss):c<=maxLen:=h.1.2.2.1
theorem Ue.below (h:Ue w A n c ss)(hb:Below w.1.size w w'):Ue w' A n c ss:=⟨(Holds.below h.1 hb).more hb.size,h.2⟩
theorem Ue.cell (h:Ue w A n c ss){k:Nat}(hk:k<n):∃d,A=some d/\d.block<w.1.size/\w.cell? (d.add k)=some (.string (txt ss k))/\(txt ss k).size<=maxLen:=by
 have f:k<ss.length:=by have:=h.len;omega
 have e:txt ss k=ss[k]:=by unfold txt;rw[List.getD_eq_getElem?_getD,List.getElem?_eq_getElem f];rfl
 obtain⟨d,m,p,u⟩:=h.1.2.2.2 k (.string ss[k]) (by simp[f]);exact⟨d,m,p,by rw[e];exact u,by rw[e];exact h.2 _ (List.getElem_mem f)⟩
end
theorem q9k (a:Nat)(d:a<9223372036854775808):(BitVec.ofInt 64 (a:Int)).toNat=a:=by
 rw[BitVec.ofInt_natCast,BitVec.toNat_ofNat];exact Nat.mod_eq_of_lt (by omega)
theorem qhh (a b:Nat)(d:b<256):a*256 ||| b=a*256+b:=by
 have h:=Nat.two_pow_add_eq_or_of_lt (i:=8) (b:=b) (by omega) a;rw[show (2:Nat) ^ 8=256 from rfl] at h;rw[Nat.mul_comm];exact h.symm
theorem qvo (a b:Nat)(f:a<36028797018963968)(d:b<256):bits .or .i64 ((a:Int)*256) (b:Int)=((256*a+b:Nat):Int):=by
 show IntKind.i64.wrap ((BitVec.ofInt 64 ((a:Int)*256) ||| BitVec.ofInt 64 (b:Int)).toNat:Int)=_;rw[show ((a:Int)*256)=((a*256:Nat):Int) by omega,BitVec.toNat_or,q9k _ (by omega),q9k _ (by omega),qhh _ _ d,IntWalk.i64_in _ (by omega)];omega
def Q8 (l:List UInt8):Nat:=l.foldl (λa b=>256*a+b.toNat) 0
theorem qf3 (l:List UInt8)(b:UInt8):Q8 (l++[b])=256*Q8 l+b.toNat:=by simp[Q8]
theorem q7g (l:List UInt8):Q8 l<256 ^ l.length:=by
 suffices h:∀n (l:List UInt8),l.length=n->Q8 l<256 ^ n from h _ l rfl
 intro n;induction n with
 |zero=>intro l f;rw[List.eq_nil_of_length_eq_zero f];simp[Q8]
 |succ n ih=>
  intro l f;have d:l≠[]:=by intro e;rw[e] at f;simp at f
  have hd:=List.dropLast_concat_getLast d;have h1:=ih l.dropLast (by rw[List.length_dropLast];omega);have h2:=(l.getLast d).toNat_lt;rw[<-hd,qf3,Nat.pow_succ];omega
theorem qni (l:List UInt8)(k:Nat)(h:k<l.length):Q8 (l.take (k+1))=256*Q8 (l.take k)+Wh l k:=by
 rw[qez l k h,qf3];have:=q9i l k;simp;omega
theorem q7h (A:Option Addr)(n c:Nat)(l:List UInt8)(w:World)(h:Sl w A n c l)(E:n<=7) :
  Calls Tryz.prog 172 #[.slice A n c] w λe w'=>e=.returned (.int .i64 (Q8 l))/\w=w':=by
 have F:=h.cap;have hm:=h.max;unfold maxLen at hm;go_enter Tryz.func172,Tryz.ntmps172
 go_wp2;go_loop [3,8] (λx i=>∃k:Nat,k<=n/\i=.int .i64 k/\x=.int .i64 (Q8 (l.take k))) (λ_ i=>n-(intOf i).toNat)
 case atStart=>exact⟨0,Nat.zero_le _,rfl,rfl⟩
 case round=>
  obtain⟨k,u,rfl,rfl⟩:=hrel;by_cases d:k<n
  ·obtain⟨D,rfl,y,m⟩:=h.cell d;have p:=q9i l k;have f:Q8 (l.take k)<36028797018963968:=by
    have h1:=q7g (l.take k);have h2:(256:Nat) ^ (l.take k).length<=256 ^ 6:=Nat.pow_le_pow_right (by omega) (by rw[List.length_take];omega);omega
   go_wp2;refine⟨⟨k+1,by omega,by go_num,?_⟩,by simp[intOf];omega⟩;have G:=h.len;rw[qni _ _ (by omega),<-qvo _ _ f (by omega)]
  ·go_wp2;go_ret;exact⟨q9h (by rw[List.take_of_length_le (by have:=h.len;omega)]),rfl⟩
theorem Gy:Y0 Tryz.prog 31 5:=⟨Tryz.underlying31,by kernel_rfl⟩
def low (x:Int)(i:Nat):UInt8:=UInt8.ofNat (x / 2 ^ (8*i) % 256).toNat
def Zc (x:Int):Nat->List UInt8
 |0=>[]
 |k+1=>low x k::Zc x k
theorem Yl (x:Int)(k:Nat):(Zc x k).length=k:=by induction k with
 |zero=>rfl
 |succ k ih=>simp[Zc,ih]
def part (x:Int)(n k:Nat):List UInt8:=List.replicate (n-k) 0++Zc x k
theorem qs9 (x:Int)(n k:Nat)(h:k<n):(part x n k).set (n-1-k) (low x k)=part x n (k+1):=by
 unfold part;have e:n-k=n-(k+1)+1:=by omega
 rw[e,List.replicate_succ',List.append_assoc,List.set_append_right _ _ (by simp;omega)];simp[Zc,show n-1-k-(n-(k+1))=0 by omega]
theorem qxg (x:Int)(k:Nat):bv (low x k)=.int .u8 (x / 2 ^ (8*k) % 256):=by
 unfold bv low;rw[UInt8.toNat_ofNat'];congr 1
 omega
theorem qbu (x m:Int)(w:World)(h1:1<=m)(u:m<=8) :
  Calls Tryz.prog 159 #[.int .i64 x,.int .i64 m] w λe w'=>∃A c,e=.returned (.slice A m.toNat c)/\Own w' w.1.size 5 A m.toNat c (Zc x m.toNat)/\Below w.1.size w w':=by
 obtain⟨n,rfl⟩:=Int.eq_ofNat_of_zero_le (show 0<=m by omega);rw[Int.toNat_natCast];go_enter Tryz.func159,Tryz.ntmps159
 go_wp2_with (at_make;refine qf1 _ Gy rfl _ _ rfl _ _ n rfl rfl (by omega) ?_)
 intro D d f;go_wp2;go_loopw [11] (λi wr=>∃k:Nat,k<=n/\i=.int .i64 k/\Own wr w.1.size 5 (some ⟨w.1.size,0,none⟩) n n (part x n k)/\Below w.1.size w wr) (λi _=>n-(intOf i).toNat)
 case atStart=>exact⟨0,Nat.zero_le _,rfl,by simpa [part,Zc] using d,f⟩
 case round=>
  obtain⟨k,y,rfl,d,f⟩:=hrel;by_cases p:k<n
  ·obtain⟨E,F⟩:=d.at_ (n-1-k) (by omega);have hn:=d.Vr (n-1-k) (low x k);rw[qs9 x n k p,qxg] at hn;go_wp2;exact⟨⟨k+1,by omega,by go_num,hn,f.setCell (Nat.le_refl _) _⟩,by simp[intOf];omega⟩
  ·obtain rfl:k=n:=by omega
   go_wp2;go_ret;refine⟨_,_,rfl,?_,f⟩;simpa [part] using d
theorem qlf (l:List UInt8)(a:Nat):l.foldl (λa b=>256*a+b.toNat) a=a*256 ^ l.length+Q8 l:=by
 induction l generalizing a with
 |nil=>simp[Q8]
 |cons b l ih=>
  unfold Q8;rw[List.foldl_cons,List.foldl_cons,ih,ih (256*0+b.toNat),List.length_cons,Nat.pow_succ,Nat.add_mul,Nat.add_mul];have e:256*a*256 ^ l.length=a*(256 ^ l.length*256):=by rw[Nat.mul_comm 256 a,Nat.mul_assoc,Nat.mul_comm 256]
  omega
theorem qlg (b:UInt8)(l:List UInt8):Q8 (b::l)=b.toNat*256 ^ l.length+Q8 l:=by
 have h:=qlf l (256*0+b.toNat);have e:(256*0+b.toNat)*256 ^ l.length=b.toNat*256 ^ l.length:=by rw[Nat.mul_zero,Nat.zero_add]
 rw[e] at h;exact h
theorem qsa (u k:Nat):(low (u:Int) k).toNat=u / 256 ^ k % 256:=by
 unfold low;have e:((u:Int) / 2 ^ (8*k) % 256)=((u / 256 ^ k % 256:Nat):Int):=by
  rw[show (256:Nat) ^ k=2 ^ (8*k) by rw[Nat.pow_mul],Int.natCast_emod,Int.natCast_ediv,Int.natCast_pow];rfl
 rw[e,Int.toNat_natCast,UInt8.toNat_ofNat'];omega
theorem qnj (u k:Nat):Q8 (Zc (u:Int) k)=u % 256 ^ k:=by
 induction k with
 |zero=>simp[Zc,Q8,Nat.mod_one]
 |succ k ih=>
  rw[Zc,qlg,Yl,ih,qsa,Nat.mod_pow_succ,Nat.mul_comm];omega
structure Kd where
 obj:Int
 kind:Int
 off:Int
def Kd.may (k:Kd):Bool:=decide ((0<=k.obj/\k.obj<=2147483647)/\(0<=k.kind/\k.kind<=255)/\0<=k.off/\k.off<=2147483647)
def Kd.less (a b:Kd):Bool:=if a.obj=b.obj then if a.kind=b.kind then decide (a.off<b.off) else decide (a.kind<b.kind) else decide (a.obj<b.obj)
def Kd.bytes (k:Kd):List UInt8:=Zc k.obj 4++(Zc k.kind 1++Zc k.off 4)
theorem Kd.Yb (k:Kd):k.bytes.length=9:=by simp[Kd.bytes,Yl]
theorem q8y (x:Int)(m:Nat)(h0:0<=x)(h1:x<(256 ^ m:Nat)):(Q8 (Zc x m):Int)=x:=by
 obtain⟨u,rfl⟩:=Int.eq_ofNat_of_zero_le h0;rw[qnj,Nat.mod_eq_of_lt (by omega)]
def Kd.hasNext (k:Kd):Bool:=decide (k.off<2147483647\/k.kind<255\/k.obj<2147483647)
def Kd.next (k:Kd):Kd:=if k.off<2147483647 then ⟨k.obj,k.kind,k.off+1⟩ else if k.kind<255 then ⟨k.obj,k.kind+1,0⟩ else if k.obj<2147483647 then ⟨k.obj+1,0,0⟩ else ⟨0,0,0⟩
theorem Kd.total (a b:Kd):(a.less b=true/\b.less a=false/\a≠b)\/(a.less b=false/\b.less a=true/\a≠b)\/(a.less b=false/\b.less a=false/\a=b):=by
 obtain⟨o,k,f⟩:=a;obtain⟨m,p,u⟩:=b;unfold Kd.less;simp only[Kd.mk.injEq,ne_eq];by_cases h1:o=m
 ·by_cases h2:k=p
  ·subst h1;subst h2;by_cases d:f=u
   ·subst d;simp
   ·rcases Int.lt_or_gt_of_ne d with h|h
    ·left;simp[d,h];omega
    ·right;left;simp[d,h];omega
  ·subst h1;rcases Int.lt_or_gt_of_ne h2 with h|h
   ·left;simp[h2,Ne.symm h2,h];omega
   ·right;left;simp[h2,Ne.symm h2,h];omega
 ·rcases Int.lt_or_gt_of_ne h1 with h|h
  ·left;simp[h1,Ne.symm h1,h];omega
  ·right;left;simp[h1,Ne.symm h1,h];omega
theorem Kd.Gp (a b:Kd):a.less b=true↔a.obj<b.obj\/(a.obj=b.obj/\(a.kind<b.kind\/(a.kind=b.kind/\a.off<b.off))):=by
 unfold Kd.less;by_cases h1:a.obj=b.obj
 ·by_cases h2:a.kind=b.kind
  ·rw[if_pos h1,if_pos h2,decide_eq_true_iff];omega
  ·rw[if_pos h1,if_neg h2,decide_eq_true_iff];omega
 ·rw[if_neg h1,decide_eq_true_iff];omega
def Kd.same (a b:Kd):Bool:=decide (a.obj=b.obj/\a.kind=b.kind/\a.off=b.off)
theorem Kd.same_iff (a b:Kd):a.same b=true↔a.obj=b.obj/\a.kind=b.kind/\a.off=b.off:=decide_eq_true_iff
theorem Kd.Ob (k:Kd):k.may=true↔(0<=k.obj/\k.obj<=2147483647)/\(0<=k.kind/\k.kind<=255)/\0<=k.off/\k.off<=2147483647:=decide_eq_true_iff
theorem Kd.last (k o:Kd)(hk:k.may=true)(ho:o.may=true)(hn:k.hasNext=false):o.same k=true\/o.less k=true:=by
 rw[Kd.Ob] at hk ho;rw[Kd.Gp,Kd.same_iff];have h:=of_decide_eq_false hn;omega
theorem Kd.trans (a b c:Kd)(h1:a.less b=true)(h2:b.less c=true):a.less c=true:=by
 rw[Kd.Gp] at *;omega
section
open Go.ChangeShapes Go.WideShapes Go.ChangeAt
section
variable {H:Type}{enc:TypeId × Value->H}{P:Program}
theorem q6i (I:laidOutB P=true){W F:World}{G:Nat->Bool}:∀(u:List TypeId) (vs:List Value) (y:List (DataW H)) (m:List MemPlace),
  (∀t∈u,P.readableRec t=true/\t<P.types.size)->DataW.TrodAll enc P W 0 (λ_=>true) true u vs y m->(∀p∈m,W.sameAt F p)->(∀p∈m,G p.block=true)->DataW.TrodAll enc P F 0 G true u vs y m
 |[],vs,y,m,_,h,_,_=>by
  obtain⟨rfl,rfl,rfl⟩:=trodAll_nil h;exact trodAll_mk0
 |t::u,vs,y,m,hr,h,hs,hsp=>by
  obtain⟨v,E,d,D,p,q,rfl,rfl,rfl,h1,h2⟩:=trodAll_cons h;have ⟨M,K⟩:=hr t (List.mem_cons_self ..);refine⟨p,q,WideElems.Trod_stays I M K h1 (λx f=>hs x (List.mem_append_left _ f)) (λx f=>hsp x (List.mem_append_left _ f)),?_,rfl⟩;exact q6i I u E D q (λt J=>hr t (List.mem_cons_of_mem _ J)) h2 (λx f=>hs x (List.mem_append_right _ f)) (λx f=>hsp x (List.mem_append_right _ f))
theorem qde {f:Func}{s:ChangeSpec}{tb:TypeId}{W O:World}{u:Array Value}{I R:List (DataW H)}{d:List MemPlace}
  (G:f.resultTypes=#[tb]) (F:P.underlying tb=some .bool) (m:s.vars=[]) (U:laidOutB P=true) (X:∀t∈f.params.toList,P.readableRec t=true/\t<P.types.size)
  (J:DataW.Whole enc P f.params.toList s.vars false W u.toList I R d) (y:s.fn H (I++R)={ results:=[.lit (.bool true)],args:=I }) (Q:Below W.1.size W O) :
  s.post enc P f false true false false W u (.bool true) O:=by
 have E:∀p∈d,p.block<W.1.size:=λp Y=>J.lt p Y
 have K:=J;obtain⟨p,q,Z,T,rfl,hz,hn⟩:=J;rw[m] at T;obtain⟨rfl,rfl⟩:=trodVars_none T;rw[List.append_nil] at E y;have D:DataW.TrodAll enc P O 0 (λb=>decide (b<W.1.size)) true f.params.toList u.toList I p:=
  q6i U _ _ _ _ X Z (λx M=>Q.same (E x M)) (λx M=>by simpa using E x M)
 refine⟨I,[],p++[],[],p,[],K,?_,?_,?_,?_,λh=>by cases h⟩
 ·rw[List.append_nil,y,G];exact trodAll_mk1 (shut_bool F true)
 ·rw[List.append_nil,y];exact D
 ·rw[List.append_nil,y,m];rfl
 ·exact Q.frame _
end
theorem qlh {H:Type}{enc:TypeId × Value->H}{P:Program}{W:World}{t e:TypeId}{v:Value}{d:DataW H}{ps:List MemPlace}(T:Y0 P t e)(U:P.underlying e=some (.int .u8))
  (M:∃a len cap,v=.slice a len cap) (h:DataW.Trod enc P W 0 (λ_=>true) true t v d ps):∃A n c l,v=.slice A n c/\Sl W A n c l:=by
 obtain⟨fuel,Q⟩:=h;obtain⟨a0,p,G,rfl⟩:=M;have D:P.cellsOf e=1:=by
  obtain⟨i,R,_,F,_⟩:=info_parts T.info;simp[Program.cellsOf,R,F]
 rcases open_ints T.sl U D Q with⟨f,_⟩|⟨a,len,cap,E,f,_,O,hm,X,_,y,J⟩
 ·simp[Value.cells] at f;obtain⟨rfl,rfl,rfl⟩:=f;exact⟨_,_,_,[],rfl,q24 W⟩
 ·simp[Value.cells] at f;obtain⟨rfl,rfl,rfl⟩:=f;rw[if_pos rfl] at X;refine⟨_,_,_,(E.take p).map (λz=>UInt8.ofNat z.toNat),rfl,?_,O,hm,λj u I=>?_⟩
  ·simp;omega
  ·have K:j<p:=by have:=(List.getElem?_eq_some_iff.1 I).1;simp at this;omega
   have m:j<E.length:=by omega
   have D:=y j m;refine⟨a,rfl,?_,?_⟩
   ·have:=World.block_lt_of_cell? W (a.add j) D;rwa [q0n] at this
   ·rw[D,<-I];rw[List.map_map,List.getElem?_map,List.getElem?_take_of_lt K,List.getElem?_eq_getElem m];have Y:=bounds_u8 (J E[j] (List.getElem_mem m));simp only[Option.map_some,Function.comp,bv,List.getD_eq_getElem?_getD,List.getElem?_eq_getElem m,Option.getD_some];congr 2
    rw[UInt8.toNat_ofNat'];omega
end
theorem q59 (A:Option Addr)(k c:Nat)(ls:List (List UInt8))(w:World)(h:Parts w A k c ls)(X:tot ls k<=35184372088832) :
  Calls Tryz.prog 158 #[.slice A k c] w λe w'=>∃F u y,e=.returned (.slice F u y)/\Own w' w.1.size 5 F u y (cat ls k)/\Below w.1.size w w':=by
 have T:k<=c:=h.2.1;have hm:c<=maxLen:=h.2.2.1;unfold maxLen at hm;have Q:=Lib.hid h.len;go_enter Tryz.func158,Tryz.ntmps158
 go_wp2;go_loop [3,11] (λs i=>∃j:Nat,j<=k/\i=.int .i64 j/\s=.int .i64 (tot ls j:Nat)) (λ_ i=>k-(intOf i).toNat)
 case atStart=>exact⟨0,Nat.zero_le _,rfl,by rw[qs8];rfl⟩
 case round=>
  obtain⟨j,Y,rfl,rfl⟩:=hrel;by_cases R:j<k
  ·obtain⟨U,B,n,d,rfl,J,G,K⟩:=h.cell R;have E:=quz ls (j+1) k (by omega);have hn:=qj9 ls j (by rw[Q.out];omega);rw[K.len] at hn;have W:=Lib.hid hn;rw[hn] at E;clear hn;go_wp2;exact⟨⟨j+1,by omega,by go_num,by rw[W.out];go_num⟩,by simp[intOf];omega⟩
  ·obtain rfl:j=k:=by omega
   go_wp2_with (at_make;refine qf2 _ Gy rfl _ _ rfl _ _ (tot ls j) rfl rfl (by omega) ?_)
   intro w1 D O;go_wp2;go_loopw [6,24] (λs i wr=>∃(q:Nat) (F:Option Addr) (u y:Nat),q<=j/\i=.int .i64 q/\s=.slice F u y/\Own wr w.1.size 5 F u y (cat ls q)/\Below w.1.size w wr) (λ_ i _=>j-(intOf i).toNat)
   case atStart=>exact⟨0,_,_,_,Nat.zero_le _,rfl,rfl,by rw[qs7];exact D,O⟩
   case round=>
    obtain⟨q,F,u,y,hq,rfl,rfl,m,p⟩:=hrel;by_cases I:q<j
    ·have E:=quz ls (q+1) j (by omega);have hn:=qj9 ls q (by rw[Q.out];omega);obtain⟨U,B,n,d,rfl,J,G,K⟩:=(h.below p).cell I;rw[K.len,show tot ls q=u from m.len] at hn;rw[hn] at E;clear hn;go_wp2_with (at_builtin;refine q9j _ Gy rfl _ _ rfl w.1.size F u y _ rfl m B n d _ rfl K (by omega) p.size ?_)
     intro Z c2 w2 f M;rw[<-qj8 ls q (by rw[Q.out];omega)] at f;go_wp2;exact⟨⟨q+1,_,_,_,by omega,by go_num,rfl,f,p.trans M⟩,by simp[intOf];omega⟩
    ·obtain rfl:q=j:=by omega
     go_wp2;go_ret;exact⟨_,_,_,rfl,m,p⟩
def Ce (l:List UInt8)(x n:Int):List UInt8:=if 1<=n/\n<=8 then l++Zc x n.toNat else l
theorem q9l (A:Option Addr)(k c:Nat)(l:List UInt8)(x n:Int)(w:World)(h:Sl w A k c l)(R:k<=17592186044416) :
  Calls Tryz.prog 126 #[.slice A k c,.int .i64 x,.int .i64 n] w λe w'=>∃E F J,e=.returned (.slice E F J)/\Own w' w.1.size 5 E F J (Ce l x n)/\Below w.1.size w w':=by
 have M:=h.len;have y:=Lib.hid M;clear M;by_cases h1:1<=n
 ·by_cases D:n<=8
  ·have u:=Lib.hid (show Ce l x n=l++Zc x n.toNat from if_pos ⟨h1,D⟩);go_enter Tryz.func126,Tryz.ntmps126
   go_wp2_with (first
    |(go_at_call 159;refine (qbu x n _ h1 D).mono ?_;rintro e T ⟨Q,c1,rfl,p,m⟩)
    |(go_at_call 158;refine (q59 _ _ _ [l,Zc x n.toNat] _ (Qbi 31 (h.below m) p.sl) (by rw[Qct,Yl,y.out];omega)).mono ?_;rintro e I ⟨G,K,c2,rfl,d,f⟩))
   go_ret;rw[Qcn,<-u.out] at d;have O:=m.size;exact⟨_,_,_,rfl,d.less (by simp;omega),m.trans (((Below.refl _ _).alloc O _).trans (f.mono (by simp;omega)))⟩
  ·have u:=Lib.hid (show Ce l x n=l from if_neg (by omega));go_enter Tryz.func126,Tryz.ntmps126
   go_wp2_with (go_at_call 158;refine (q59 _ _ _ [l] _ (Cc 31 h) (by rw[Qav,y.out];omega)).mono ?_;rintro e I ⟨G,K,c2,rfl,d,f⟩)
   go_ret;rw[Qal] at d;rw[u.out];exact⟨_,_,_,rfl,d.less (by simp),(Qm).trans (f.mono (by simp))⟩
 ·have u:=Lib.hid (show Ce l x n=l from if_neg (by omega));go_enter Tryz.func126,Tryz.ntmps126
  go_wp2_with (go_at_call 158;refine (q59 _ _ _ [l] _ (Cc 31 h) (by rw[Qav,y.out];omega)).mono ?_;rintro e I ⟨G,K,c2,rfl,d,f⟩)
  go_ret;rw[Qal] at d;rw[u.out];exact⟨_,_,_,rfl,d.less (by simp),(Qm).trans (f.mono (by simp))⟩
section
open Go.ChangeMaps (setBlock)
def kI (e:MapEntry):Int:=match e.key with|.int _ z=>z|_=>0
def Zf (s:Int):List MapEntry->Option Value
 |[]=>none
 |e::r=>if kI e=s then some e.val else Zf s r
def Jy (s:Int)(v:Value)(c:Nat):List MapEntry->List MapEntry
 |[]=>[{ key:=.int .i64 s,val:=v,born:=c }]
 |e::r=>if kI e=s then { e with key:=.int .i64 s,val:=v }::r else e::Jy s v c r
def Xw (s:Int):List MapEntry->List MapEntry
 |[]=>[]
 |e::r=>if kI e=s then r else e::Xw s r
structure Vy (l:List MapEntry)(clock:Nat):Prop where
 key:∀e∈l,e.key=.int .i64 (kI e)
 one:(l.map kI).Nodup
 born:(l.map (·.born)).Nodup
 clock:∀e∈l,e.born<clock
theorem Qb1 (s:Int)(v:Value)(c:Nat):kI { key:=.int .i64 s,val:=v,born:=c }=s:=rfl
theorem q8z {s:Int}{v:Value}:∀{l:List MapEntry},Zf s l=some v->∃e∈l,kI e=s/\e.val=v
 |[],h=>by cases h
 |e::r,h=>by
  unfold Zf at h;split at h
  ·exact⟨e,by simp,by assumption,by simpa using h⟩
  ·obtain⟨x,d,h2⟩:=q8z h;exact⟨x,by simp[d],h2⟩
theorem qf4 {s:Int}:∀{l:List MapEntry},Zf s l=none->∀e∈l,kI e≠s
 |[],_,e,he=>by cases he
 |x::r,h,e,he=>by
  unfold Zf at h;split at h
  ·cases h
  ·rcases List.mem_cons.1 he with rfl|h2
   ·assumption
   ·exact qf4 h e h2
theorem q2t {l:List MapEntry}(hn:(l.map kI).Nodup){e:MapEntry}(d:e∈l):Zf (kI e) l=some e.val:=by
 induction l with
 |nil=>cases d
 |cons x r ih=>
  unfold Zf;rw[List.map_cons,List.nodup_cons] at hn;rcases List.mem_cons.1 d with rfl|h2
  ·simp
  ·rw[if_neg (λh=>hn.1 (by rw[h];exact List.mem_map.2 ⟨e,h2,rfl⟩))];exact ih hn.2 h2
theorem qdf (s:Int)(v:Value)(c:Nat)(z:Int):∀l:List MapEntry,Zf z (Jy s v c l)=if z=s then some v else Zf z l
 |[]=>by
  unfold Jy Zf;rw[Qb1];by_cases h:s=z
  ·simp[h]
  ·have:¬z=s:=λe=>h e.symm
   simp[h,this,Zf]
 |e::r=>by
  unfold Jy;by_cases h:kI e=s
  ·rw[if_pos h];by_cases d:s=z
   ·subst d;simp[Zf,kI]
   ·have f:¬z=s:=λe=>d e.symm
    have p:¬kI e=z:=λe=>d (h.symm.trans e)
    have m:¬kI { e with key:=.int .i64 s,val:=v }=z:=d;unfold Zf;rw[if_neg m,if_neg f,if_neg p]
  ·rw[if_neg h];unfold Zf;rw[qdf s v c z r];by_cases d:kI e=z
   ·have:¬z=s:=λu=>h (d.trans u)
    simp[d,this]
   ·simp[d]
theorem q90 {s:Int}(z:Int):∀{l:List MapEntry},(l.map kI).Nodup->Zf z (Xw s l)=if z=s then none else Zf z l
 |[],_=>by simp[Xw,Zf]
 |e::r,hn=>by
  rw[List.map_cons,List.nodup_cons] at hn;unfold Xw;by_cases h:kI e=s
  ·rw[if_pos h];by_cases d:z=s
   ·rw[if_pos d,d]
    cases p:Zf s r with
    |none=>rfl
    |some v=>
     obtain⟨x,u,h2,_⟩:=q8z p;exact absurd (List.mem_map.2 ⟨x,u,h2.trans h.symm⟩) hn.1
   ·rw[if_neg d];have m:Zf z (e::r)=Zf z r:=by
     show (if kI e=z then some e.val else Zf z r)=_;rw[if_neg (λf=>d (f.symm.trans h))]
    exact m.symm
  ·rw[if_neg h];unfold Zf;rw[q90 z hn.2];by_cases d:kI e=z
   ·have:¬z=s:=λf=>h (d.trans f)
    simp[d,this]
   ·simp[d]
theorem q9m {s:Int}{v:Value}{c:Nat}:∀{l:List MapEntry} {e:MapEntry},e∈Jy s v c l->e∈l\/(e.key=.int .i64 s/\(e.born=c\/∃x∈l,x.born=e.born))
 |[],e,h=>by
  simp[Jy] at h;subst h;exact .inr ⟨rfl,.inl rfl⟩
 |x::r,e,h=>by
  unfold Jy at h;split at h
  ·rcases List.mem_cons.1 h with rfl|h2
   ·exact .inr ⟨rfl,.inr ⟨x,by simp,rfl⟩⟩
   ·exact .inl (by simp[h2])
  ·rcases List.mem_cons.1 h with rfl|h2
   ·exact .inl (by simp)
   ·rcases q9m h2 with d|⟨d,p⟩
    ·exact .inl (by simp[d])
    ·refine .inr ⟨d,p.imp id λ⟨y,f,m⟩=>⟨y,by simp[f],m⟩⟩
theorem q65 {s:Int}:∀{l:List MapEntry} {e:MapEntry},e∈Xw s l->e∈l
 |[],e,h=>by cases h
 |x::r,e,h=>by
  unfold Xw at h;split at h
  ·simp[h]
  ·rcases List.mem_cons.1 h with rfl|h2
   ·simp
   ·simp[q65 h2]
theorem qhi {s:Int}:∀(l:List MapEntry),List.Sublist (Xw s l) l
 |[]=>.slnil
 |x::r=>by
  unfold Xw;split
  ·exact List.sublist_cons_self ..
  ·exact (qhi r).cons_cons x
theorem qv0 {s:Int}{v:Value}{c:Nat}:∀(l:List MapEntry),(Jy s v c l).map kI=if Zf s l=none then l.map kI++[s] else l.map kI
 |[]=>by simp[Jy,Zf,kI]
 |x::r=>by
  unfold Jy Zf;by_cases h:kI x=s
  ·rw[if_pos h,if_pos h,if_neg (by simp)];simp[kI] at h ⊢;exact h.symm
  ·rw[if_neg h,if_neg h,List.map_cons,qv0 r];split<;>simp
theorem qdg {s:Int}{v:Value}{c:Nat}:∀(l:List MapEntry),(Jy s v c l).map (·.born)=if Zf s l=none then l.map (·.born)++[c] else l.map (·.born)
 |[]=>by simp[Jy,Zf]
 |x::r=>by
  unfold Jy Zf;by_cases h:kI x=s
  ·rw[if_pos h,if_pos h,if_neg (by simp)];simp
  ·rw[if_neg h,if_neg h,List.map_cons,qdg r];split<;>simp
theorem qbv {s:Int}:∀(l:List MapEntry),(Xw s l).length=if Zf s l=none then l.length else l.length-1
 |[]=>by simp[Xw,Zf]
 |x::r=>by
  unfold Xw Zf;by_cases h:kI x=s
  ·simp[h]
  ·rw[if_neg h,if_neg h,List.length_cons,qbv r];split
   ·simp
   ·rename_i d;have:0<r.length:=by
     rcases r with _|⟨a,b⟩
     ·exact absurd rfl d
     ·simp
    simp;omega
theorem qsb:Vy [] 0:=⟨by simp,by simp,by simp,by simp⟩
theorem Vy.put {l:List MapEntry}{clock:Nat}(h:Vy l clock)(s:Int)(v:Value):Vy (Jy s v clock l) (if Zf s l=none then clock+1 else clock):=by
 have y:∀e∈Jy s v clock l,e.born<clock+1:=λe d=>by
  rcases q9m d with h2|⟨_,h2|⟨x,u,h2⟩⟩
  ·have:=h.clock e h2;omega
  ·omega
  ·have:=h.clock x u;omega
 refine⟨λe d=>?_,?_,?_,λe d=>?_⟩
 ·rcases q9m d with h2|⟨h2,_⟩
  ·exact h.key e h2
  ·unfold kI;rw[h2]
 ·rw[qv0];split
  ·rename_i m;rw[List.nodup_append];refine⟨h.one,by simp,λa p b f=>?_⟩;obtain rfl:b=s:=by simpa using f
   obtain⟨e,d,rfl⟩:=List.mem_map.1 p;exact qf4 m e d
  ·exact h.one
 ·rw[qdg];split
  ·rw[List.nodup_append];refine⟨h.born,by simp,λa p b f=>?_⟩;obtain rfl:b=clock:=by simpa using f
   obtain⟨e,d,rfl⟩:=List.mem_map.1 p;have:=h.clock e d;show e.born≠b;omega
  ·exact h.born
 ·by_cases m:Zf s l=none
  ·rw[if_pos m];exact y e d
  ·rw[if_neg m];have f:e.born∈(Jy s v clock l).map (·.born):=List.mem_map.2 ⟨e,d,rfl⟩;rw[qdg,if_neg m] at f;obtain⟨x,u,h2⟩:=List.mem_map.1 f;have:=h.clock x u;rw[<-h2];exact this
theorem Vy.del {l:List MapEntry}{clock:Nat}(h:Vy l clock)(s:Int):Vy (Xw s l) clock:=
 ⟨λe d=>h.key e (q65 d),h.one.sublist ((qhi l).map kI),h.born.sublist ((qhi l).map _),λe d=>h.clock e (q65 d)⟩
theorem q9n (s:Int):∀(l:List MapEntry) (i:Nat),(∀e∈l,e.key=.int .i64 (kI e))->
  (Instr.findNow (.int .i64) (.int .i64 s) l i=some none/\Zf s l=none/\(∀v c,Jy s v c l=l++[{ key:=.int .i64 s,val:=v,born:=c }])/\Xw s l=l)\/
  ∃j e,Instr.findNow (.int .i64) (.int .i64 s) l i=some (some (i+j,e.val))/\l[j]?=some e/\e.key=.int .i64 s/\Zf s l=some e.val/\
   (∀v c,Jy s v c l=l.modify j λe=>{ e with key:=.int .i64 s,val:=v })/\Xw s l=l.eraseIdx j
 |[],i,_=>.inl ⟨rfl,rfl,λ_ _=>rfl,rfl⟩
 |x::r,i,hk=>by
  have m:=hk x (by simp);by_cases h:kI x=s
  ·refine .inr ⟨0,x,?_,rfl,by rw[m,h],by simp[Zf,h],λv c=>by simp[Jy,h],by simp[Xw,h]⟩;rw[Instr.findNow,m,h];simp[Instr.sameNow]
  ·have u:Instr.findNow (.int .i64) (.int .i64 s) (x::r) i=Instr.findNow (.int .i64) (.int .i64 s) r (i+1):=by
    have f:(s==kI x)=false:=by rw[beq_eq_false_iff_ne];exact λe=>h e.symm
    rw[Instr.findNow,m];simp[Instr.sameNow,f]
   rcases q9n s r (i+1) (λe y=>hk e (by simp[y])) with⟨h1,h2,p,d⟩|⟨j,e,h1,h2,p,d,E,D⟩
   ·exact .inl ⟨u.trans h1,by simp[Zf,h,h2],λv c=>by simp[Jy,h,p],by simp[Xw,h,d]⟩
   ·refine .inr ⟨j+1,e,by rw[u,h1];congr 3;omega,by simpa using h2,p,by simp[Zf,h,d],λv c=>by simp[Jy,h,E],by simp[Xw,h,D]⟩
section
variable {P:Program}{w:World}{t k e b clock:Nat}{l:List MapEntry}
theorem q4k (E:Vy l clock)(m:P.underlying t=some (.map k e))(d:P.underlying k=some (.int .i64)){z:Value}(D:(zeroValue e).run P w=.ok z w)(p:w.1[b]?=some (.map l.toArray clock))(s:Int) :
  (Instr.lookup t (.map (some b)) (.int .i64 s) false).run P w=.ok ((Zf s l).getD z) w:=by
 have u:=λy=>MapKept.run_checkKey (P:=P) (w:=w) d (k:=.int .i64 s) rfl y 9999
 rcases q9n s l 0 E.key with⟨h1,h2,_⟩|⟨j,x,h1,_,_,F,_⟩
 ·have f:=MapKept.run_findKey (P:=P) (w:=w) d h1;simp[Instr.lookup,run_underlying m,MapKept.run_getObj_map p,u,f,D,h2]
 ·have f:=MapKept.run_findKey (P:=P) (w:=w) d h1;simp[Instr.lookup,run_underlying m,MapKept.run_getObj_map p,u,f,F]
theorem q2u (E:Vy l clock)(y:P.underlying t=some (.map k e))(m:P.underlying k=some (.int .i64))(d:w.1[b]?=some (.map l.toArray clock))(s:Int)(v:Value) :
  (Instr.mapUpdate t (.map (some b)) (.int .i64 s) v).run P w=.ok () (setBlock w b (.map (Jy s v clock l).toArray (if Zf s l=none then clock+1 else clock))):=by
 have D:=λG=>MapKept.run_checkKey (P:=P) (w:=w) m (k:=.int .i64 s) rfl G 9999
 rcases q9n s l 0 E.key with⟨h1,h2,u,_⟩|⟨j,x,h1,F,u,J,I,_⟩
 ·have f:=MapKept.run_findKey (P:=P) (w:=w) m h1;simp[Instr.mapUpdate,run_underlying y,MapKept.run_getObj_map d,D,f,h2,u,MapKept.run_setObj_map _ d,setBlock]
 ·have f:=MapKept.run_findKey (P:=P) (w:=w) m h1;rw[Nat.zero_add] at f;have p:(Instr.keyThatStays (.int .i64 s) (.int .i64 s)).run P w=.ok (.int .i64 s) w:=by
   simp[Instr.keyThatStays,Instr.sameBits]
  simp[Instr.mapUpdate,run_underlying y,MapKept.run_getObj_map d,D,f,J,I,F,u,p,MapKept.run_setObj_map _ d,setBlock]
theorem q4l (E:Vy l clock)(p:P.underlying t=some (.map k e))(m:P.underlying k=some (.int .i64))(d:w.1[b]?=some (.map l.toArray clock))(s:Int)(u ty:TypeId) :
  (Builtin.delete_ #[t,u] ty #[.map (some b),.int .i64 s]).run P w=.ok (.tuple #[]) (setBlock w b (.map (Xw s l).toArray clock)):=by
 have y:=λD=>MapKept.run_checkKey (P:=P) (w:=w) m (k:=.int .i64 s) rfl D 9999
 rcases q9n s l 0 E.key with⟨h1,h2,_,G⟩|⟨j,x,h1,I,J,_,_,F⟩
 ·have f:=MapKept.run_findKey (P:=P) (w:=w) m h1;simp[Builtin.delete_,run_underlying p,MapKept.run_getObj_map d,y,f,G,MapKept.run_setObj_map _ d,setBlock]
 ·have f:=MapKept.run_findKey (P:=P) (w:=w) m h1;rw[Nat.zero_add] at f;simp[Builtin.delete_,run_underlying p,MapKept.run_getObj_map d,y,f,F,MapKept.run_setObj_map _ d,setBlock]
end
end
def Tab (w:World):Prop:=1<w.1.size/\∀k:Nat,k<16->w.cell? ⟨1,k,none⟩=some (.int .u32 (Fh k:Nat))
theorem Tab.below {w w':World}{B:Nat}(h:Tab w)(hb:Below B w w')(hB:1<B):Tab w':=
 ⟨by have:=hb.size;have:=h.1;omega,λk d=>(hb.cell (p:=⟨1,k,none⟩) hB).trans (h.2 k d)⟩
theorem qbw (r:Nat)(u:r<4294967296)(w:World)(h:Tab w) :
  Calls Tryz.prog 203 #[.int .u32 (r:Nat)] w λe w'=>e=.returned (.int .u32 (Fh r:Nat))/\w=w':=by
 obtain⟨m,hm⟩:∃m,m=r % 16:=⟨_,rfl⟩;have d:m<16:=by omega
 have f:=h.2 m d;have p:bits .and .u32 (r:Int) 15=(m:Int):=by
  rw[show (15:Int)=((15:Nat):Int) from rfl,u32_and_nat r 15 u (by omega),nat_mask4,hm]
 have y:=Lib.hid hm;clear hm;go_enter Tryz.func203,Tryz.ntmps203
 go_wp2;go_ret;have D:bits .xor .u32 ((r:Int) / 16) (Fh m:Nat)=(Fh r:Nat):=by
  rw[show (r:Int) / 16=((r / 16:Nat):Int) by omega,u32_xor_nat _ _ (by omega) (qj4 (by omega)),y.out,<-qs5 r]
 exact⟨q9h D,rfl⟩
theorem qsc (r:Nat)(l:List UInt8)(k:Nat)(h:k<l.length):Yg r (l.take (k+1))=Fh (Fh (Yg r (l.take k) ^^^ Wh l k)):=by
 rw[qez l k h,qhg];have:=q9i l k;unfold by8 st8;rw[show (UInt8.ofNat (Wh l k)).toNat=Wh l k by simp;omega]
theorem qsd (s:Nat)(R:s<4294967296)(A:Option Addr)(n c:Nat)(l:List UInt8)(w:World)(m:Sl w A n c l)(Q:Tab w) :
  Calls Tryz.prog 176 #[.int .u32 (s:Nat),.slice A n c] w λe w'=>e=.returned (.int .u32 (more s l:Nat))/\w=w':=by
 have hm:=m.max;have hc:=m.cap;unfold maxLen at hm;have U:=Lib.hid m.len;obtain⟨q,K⟩:∃q,q=4294967295-s:=⟨_,rfl⟩;have T:bits .xor .u32 IntKind.u32.max (s:Int)=(q:Int):=by
  rw[show IntKind.u32.max=((4294967295:Nat):Int) from rfl,u32_xor_nat _ s (by omega) R,Nat.xor_comm,qj6 R,K]
 have G:q<4294967296:=by omega
 have Z:=Lib.hid K;clear K;go_enter Tryz.func176,Tryz.ntmps176
 go_wp2;go_loop [5,12] (λr i=>∃k:Nat,k<=n/\i=.int .i64 k/\r=.int .u32 (Yg q (l.take k):Nat)) (λ_ i=>n-(intOf i).toNat)
 case atStart=>exact⟨0,Nat.zero_le _,rfl,rfl⟩
 case round=>
  obtain⟨k,hk,rfl,rfl⟩:=hrel;have D:=qng (l.take k) G;by_cases F:k<n
  ·obtain⟨ad,rfl,hb,O⟩:=m.cell F;have W:=q9i l k;have I:=Lib.hid (qsc q l k (by rw[U.out];exact F));generalize Yg q (l.take k)=x at D I;have E:bits .xor .u32 (x:Int) (Wh l k:Int)=((x ^^^ Wh l k:Nat):Int):=u32_xor_nat _ _ D (by omega);have J:x ^^^ Wh l k<4294967296:=qnf D (by omega);generalize x ^^^ Wh l k=y at E J I;have u:=qj4 J;go_wp2_with fail
   refine (qbw y J w Q).mono ?_;rintro e w' ⟨rfl,rfl⟩;obtain⟨M,f⟩:∃M,M=Fh y:=⟨_,rfl⟩;rw[<-f] at u I ⊢;have Y:=Lib.hid f;clear f;go_wp2_with fail
   refine (qbw M u w Q).mono ?_;rintro e w' ⟨rfl,rfl⟩;go_wp2;exact⟨⟨k+1,by omega,by go_num,by rw[I.out]⟩,by simp[intOf];omega⟩
  ·obtain rfl:k=n:=by omega
   have X:=Lib.hid (show l.take k=l from List.take_of_length_le (by rw[U.out];omega));have d:bits .xor .u32 IntKind.u32.max (Yg q (l.take k):Int)=((4294967295-Yg q (l.take k):Nat):Int):=by
    rw[show IntKind.u32.max=((4294967295:Nat):Int) from rfl,u32_xor_nat _ _ (by omega) D,Nat.xor_comm,qj6 D]
   have p:=Lib.hid d;clear d;go_wp2;go_ret;exact⟨q9h (by rw[p.out,X.out,Z.out];rfl),rfl⟩
theorem qvp (A:Option Addr)(n c:Nat)(l:List UInt8)(w:World)(h:Sl w A n c l)(d:Tab w) :
  Calls Tryz.prog 157 #[.slice A n c] w λe w'=>e=.returned (.int .u32 (more 0 l:Nat))/\w=w':=by
 go_enter Tryz.func157,Tryz.ntmps157
 go_wp2_with (go_at_call 176;refine (qsd 0 (by omega) A n c l w h d).mono ?_;rintro e w' ⟨rfl,rfl⟩)
 go_ret;exact⟨rfl,rfl⟩
theorem qvq (w:World)(e:TypeId)(fr:Nat × Nat)(l:List UInt8)(d:Array Value)(h:d.toList=l.map bv)(hm:l.length<=16777216):Sl (w.alloc (.cells d e fr)) (some ⟨w.1.size,0,none⟩) l.length l.length l:=by
 refine⟨by simp,Nat.le_refl _,by unfold maxLen;omega,λj u f=>⟨_,rfl,by simp,?_⟩⟩;rw[Addr.add_lit,Nat.zero_add,World.cell?_alloc_mark,<-f,<-h];simp
theorem Sl.one {w:World}{A:Option Addr}{n c:Nat}{l:List UInt8}(h:Sl w A n c l){k:Nat}(hk:k<n):∃d,A=some d/\Sl w (some (d.add k)) 1 (c-k) [UInt8.ofNat (Wh l k)]:=by
 obtain⟨d,rfl,f,p⟩:=h.cell hk;refine⟨d,rfl,⟨rfl,by have:=h.cap;omega,by have:=h.max;omega,λj u m=>?_⟩⟩;rcases j with _|j
 ·refine⟨_,rfl,by rw[q0n];exact f,?_⟩;rw[qj7,Nat.add_zero,p];have f:=q9i l k;have e:u=bv (UInt8.ofNat (Wh l k)):=by simpa using m.symm
  rw[e];unfold bv;rw[UInt8.toNat_ofNat',Nat.mod_eq_of_lt (by omega)]
 ·simp at m
section
open Go.ChangeShapes Go.WideShapes Go.ChangeAt
theorem qf5 {H:Type}{enc:TypeId × Value->H}{P:Program}{W:World}{base:Nat}{M:Nat->Bool}{held:Bool}{fuel:Nat}{t e:TypeId}{n:Nat}{k:IntKind}{f:List Value}{zs:List Int}{p:List MemPlace}
  (F:P.underlying t=some (.array n e)) (G:P.underlying e=some (.int k)) (O:P.cellsOf e=1) (h:DataW.trod enc P W base M held fuel t f=some (.agg (zs.map λz=>.lit (.int k z)),p)) (i:Nat) (hi:i<n):f[i]?=some (.int k (zs.getD i 0)):=by
 obtain⟨xs,m,rfl,E,_,hn,u⟩:=DataW.trod_array F h;have h1:=u i hi;rw[O,Nat.mul_one] at h1;have d:i<xs.length:=by omega
 rw[List.getElem?_eq_getElem d] at h1;obtain⟨z,I,K,_⟩:=DataW.trod_int G h1;simp only[Prod.mk.injEq,DataW.agg.injEq] at E;have h2:=congrArg (λl=>l[i]?) E.1;simp only[List.getElem?_map] at h2;rw[List.getElem?_eq_getElem d,K] at h2;have J:zs[i]?=some z:=by
  cases D:zs[i]? with
  |none=>rw[D] at h2;cases h2
  |some y=>rw[D] at h2;simp only[Option.map_some,Option.some.injEq] at h2;cases h2;rfl
 have Q:f[i]?=some (.int k z):=by
  have:=congrArg (λl=>l[0]?) I;simpa [List.getElem?_take,List.getElem?_drop] using this
 rw[Q,List.getD_eq_getElem?_getD,J];rfl
theorem qnk {P:Program}{W:World}{name:String}{g:Nat}{t e:TypeId}{n:Nat}{k:IntKind}{zs:List Int}(y:P.globalNamed name=some g)(m:(P.globals[g]?).map (·.type)=some t)
  (E:P.underlying t=some (.array n e)) (F:P.underlying e=some (.int k)) (G:P.cellsOf e=1) (h:laidMet P [(name,.agg (zs.map λz=>.lit (.int k z)))] W) (i:Nat) (hi:i<n):W.cell? ⟨g,i,none⟩=some (.int k (zs.getD i 0)):=by
 obtain⟨K,⟨O,t0,D,M,J,I,p,f,d,u,_,_⟩,_,_⟩:=h;obtain rfl:=Option.some.inj (y.symm.trans p);obtain rfl:=Option.some.inj (m.symm.trans f);rw[World.var?_cell y d i];have:=qf5 E F G u i hi;simpa using this
end
section
open Go.ChangeShapes Go.WideShapes Go.ChangeAt
theorem Ic:ownKnob Tryz.prog.godebug=none:=by kernel_rfl
theorem Tv:laidOutB Tryz.prog=true:=by kernel_rfl
abbrev LAID:List (String × DataW Unit):=[("cambium/sum.shifted",Rows.laid_cambium_sum_shifted)]
theorem qdh (os:Os)(d:Array Value):laidMetH Tryz.prog LAID ((World.doorLaid Tryz.prog 400 os).forCall (λ_ _=>0) ⟨#[],d,[]⟩).memory:=
 laidMetH_of_parts3 (fuel:=8) (laidMet_of_run' 8 (by kernel_rfl) (by kernel_rfl)) (by kernel_rfl) (by kernel_rfl)
theorem qdi {W:World}(h:laidMetH Tryz.prog LAID W):Tab W:=by
 rw[MakeChecks.laidMetH_plain _ _ _ (by kernel_rfl)] at h;have f:∀k:Nat,k<16->W.cell? ⟨1,k,none⟩=some (.int .u32 (([0,274646895,549293790,820201905,1098587580,1361435347,1640403810,1905808397,2197175160,2460548119,2722870694,2987750089,3280807620,3553878443,3811616794,4084100981]:List Int).getD k 0)):=λk d=>
  qnk (zs:=[0,274646895,549293790,820201905,1098587580,1361435347,1640403810,1905808397,2197175160,2460548119,2722870694,2987750089,3280807620,3553878443,3811616794,4084100981]) (g:=1) (by kernel_rfl) (by kernel_rfl) Tryz.underlying285 Tryz.underlying235 (by kernel_rfl) h k d
 have m:∀k:Nat,k<16->([0,274646895,549293790,820201905,1098587580,1361435347,1640403810,1905808397,2197175160,2460548119,2722870694,2987750089,3280807620,3553878443,3811616794,4084100981]:List Int).getD k 0=(Fh k:Nat):=by decide +kernel
 exact⟨by have:=World.block_lt_of_cell? W _ (f 0 (by omega));exact this,λk d=>by rw[f k d,m k d]⟩
end
