/- Words for slices whose cells are read, over the kit's library; nothing here speaks of one  -/
import Derived.WalkKit
import Derived.Deep.Draws
import Derived.Deep.AppendLies
import Derived.Maps.AppendAt
import Derived.Lib.Hide
import Derived.Lib.ConvBytes
import Derived.Maps.RangeRun
import Derived.Maps.Keyed
namespace Go.Proofs.YtipejjgodnnkaaaGreatDoor
open Go Go.RowKit Go.Proofs
theorem blA {w:World}{o:Obj}:Below w.heap.size w (w.alloc o):=(Below.refl _ _).alloc (Nat.le_refl _) _
theorem q6g {k:IntKind}{a b:Int}(h:a=b):Ending.returned (.int k a)=.returned (.int k b):=by rw[h]
def bv (b:UInt8):Value:=.int .u8 (b.toNat:Int)
def byt (l:List UInt8)(k:Nat):Nat:=(l.getD k 0).toNat
theorem q39 (l:List UInt8)(k:Nat):byt l k≤255:=by have:=(l.getD k 0).toNat_lt;unfold byt;omega
theorem qc6 (l:List UInt8)(k:Nat)(h:k<l.length):l.take (k+1)=l.take k++[UInt8.ofNat (byt l k)]:=by
 rw[List.take_succ_eq_append_getElem h];simp[byt,List.getD,h]
theorem q0n (a:Addr)(n:Nat):(a.add n).block=a.block:=by unfold Addr.add;split<;>rfl
theorem qg5 (a:Addr)(i j:Nat):(a.add i).add j=a.add (i+j):=by
 unfold Addr.add
 by_cases hi:i=0<;>by_cases hj:j=0<;>simp[hi,hj,Nat.add_assoc]
def Holds (w:World)(B:Nat)(A:Option Addr)(n c:Nat)(xs:List Value):Prop:=
 xs.length=n∧n≤c∧c≤maxLen∧∀(j:Nat) u,xs[j]?=some u→∃ad,A=some ad∧ad.block<B∧w.cell? (ad.add j)=some u
def Sl (w:World)(A:Option Addr)(n c:Nat)(l:List UInt8):Prop:=Holds w w.heap.size A n c (l.map bv)
section
variable {w w':World}{B B' n c:Nat}{A:Option Addr}{xs:List Value}
theorem Holds.len (h:Holds w B A n c xs):xs.length=n:=h.1
theorem Holds.keep (h:Holds w B A n c xs)(hk:∀p:Addr,p.block<B→w'.cell? p=w.cell? p):Holds w' B A n c xs:=
 ⟨h.1,h.2.1,h.2.2.1,fun j u hu=>by
  obtain⟨ad,e,hb,hc⟩:=h.2.2.2 j u hu
  exact⟨ad,e,hb,(hk _ (by rw[q0n];exact hb)).trans hc⟩⟩
theorem Holds.more (h:Holds w B A n c xs)(hB:B≤B'):Holds w B' A n c xs:=
 ⟨h.1,h.2.1,h.2.2.1,fun j u hu=>by
  obtain⟨ad,e,hb,hc⟩:=h.2.2.2 j u hu
  exact⟨ad,e,by omega,hc⟩⟩
theorem Holds.below (h:Holds w B A n c xs)(hb:Below B w w'):Holds w' B A n c xs:=h.keep fun _ hp=>hb.cell hp
end
section
variable {w w':World}{n c:Nat}{A:Option Addr}{l:List UInt8}
theorem Sl.len (h:Sl w A n c l):l.length=n:=by simpa using h.1
theorem Sl.cap (h:Sl w A n c l):n≤c:=h.2.1
theorem Sl.max (h:Sl w A n c l):c≤maxLen:=h.2.2.1
theorem Sl.below (h:Sl w A n c l)(hb:Below w.heap.size w w'):Sl w' A n c l:=(Holds.below h hb).more hb.size
theorem Sl.drew (h:Sl w A n c l):Sl w.drew A n c l:=h
theorem Sl.drewN (h:Sl w A n c l)(k:Nat):Sl (w.drewN k) A n c l:=h
theorem Sl.cell (h:Sl w A n c l){k:Nat}(hk:k<n):∃ad,A=some ad∧ad.block<w.heap.size∧w.cell? (ad.add k)=some (.int .u8 (byt l k:Int)):=by
 have hl:k<l.length:=by have:=h.len;omega
 obtain⟨ad,e,hb,hc⟩:=h.2.2.2 k (bv l[k]) (by simp[hl])
 exact⟨ad,e,hb,by rw[hc];unfold byt bv;rw[List.getD_eq_getElem?_getD,List.getElem?_eq_getElem hl];rfl⟩
theorem Sl.take (h:Sl w A n c l){k:Nat}(hk:k≤n):Sl w A k c (l.take k):=by
 refine⟨by have:=h.len;simp;omega,by have:=h.cap;omega,h.max,fun j u hu=>h.2.2.2 j u ?_⟩
 rw[List.map_take,List.getElem?_take] at hu
 split at hu
 ·exact hu
 ·cases hu
theorem Sl.drop (h:Sl w A n c l){k:Nat}(hk:k≤n):Sl w (if c=k then A else A.map (·.add k)) (n-k) (c-k) (l.drop k):=by
 refine⟨by have:=h.len;simp;omega,by have:=h.cap;omega,by have:=h.max;omega,fun j u hu=>?_⟩
 rw[List.map_drop,List.getElem?_drop] at hu
 obtain⟨ad,rfl,hb,hc⟩:=h.2.2.2 _ u hu
 have hj:k+j<n:=by
  have:=h.1;have h2:=(List.getElem?_eq_some_iff.1 hu).1;omega
 rw[if_neg (by have:=h.cap;omega)]
 exact⟨ad.add k,rfl,by rw[q0n];exact hb,by rw[qg5];exact hc⟩
end
structure ByteT (P:Program)(t e:TypeId):Prop where
 sl:P.underlying t=some (.slice e)
 info:(P.info? e).map (fun i=>(i.zero,i.size,i.bytes))=some (some (.int .u8 0),1,1)
def Own (w:World)(base:Nat)(e:TypeId)(A:Option Addr)(n c:Nat)(l:List UInt8):Prop:=w.ownsRow base e 1 (.slice A n c) n (l.map bv)
theorem qc7 (l:List UInt8):∀u∈l.map bv,u.oneCell'=true:=by
 intro u hu
 obtain⟨_,_,rfl⟩:=List.mem_map.1 hu
 rfl
section
variable {w w':World}{base n c:Nat}{e:TypeId}{A:Option Addr}{l:List UInt8}
theorem Own.len (h:Own w base e A n c l):l.length=n:=by have:=h.1;simpa using this
theorem Own.sl (h:Own w base e A n c l):Sl w A n c l:=by
 refine⟨by have:=h.len;simpa using this,?_,?_,fun j u hu=>?_⟩
 ·rcases h.2 with⟨hv,rfl⟩|⟨g,cap,cur,hv,_,_,h1,h2,_⟩
  ·omega
  ·injection hv with _ _ h3;omega
 ·rcases h.2 with⟨hv,rfl⟩|⟨g,cap,cur,hv,_,_,h1,h2,_⟩
  ·injection hv with _ _ h3;unfold maxLen;omega
  ·injection hv with _ _ h3;omega
 ·rcases h.2 with⟨hv,rfl⟩|⟨g,cap,cur,hv,hb,hg,h1,h2,h3,h4⟩
  ·have:=h.len;have h0:=(List.getElem?_eq_some_iff.1 hu).1;simp at h0;omega
  ·have hA:A=some ⟨g,0,none⟩:=by injection hv
   subst hA
   exact⟨_,rfl,(Array.getElem?_eq_some_iff.1 hg).1,h.cells (g:=g) rfl j u hu⟩
theorem Own.block (h:Own w base e A n c l):∀ad,A=some ad→base≤ad.block∧ad.block<w.heap.size:=by
 intro ad had;subst had
 exact h.lt ad.block rfl
theorem Own.at_ {g:Nat}(h:Own w base e (some ⟨g,0,none⟩) n c l)(j:Nat)(hj:j<n):w.cell? ⟨g,j,none⟩=some (.int .u8 (byt l j:Int))∧w.frozen? ⟨g,j,none⟩=false:=by
 have hl:=h.len
 refine⟨?_,World.ownsRow.frozenAt h j⟩
 rw[World.ownsRow.cellAt h j (by omega),List.getElem?_map,List.getElem?_eq_getElem (by omega)]
 unfold byt
 rw[List.getD_eq_getElem?_getD,List.getElem?_eq_getElem (by omega)];rfl
theorem Own.set_ {g:Nat}(h:Own w base e (some ⟨g,0,none⟩) n c l)(j:Nat)(b:UInt8):Own (w.setCell ⟨g,j,none⟩ (bv b)) base e (some ⟨g,0,none⟩) n c (l.set j b):=by
 unfold Own
 rw[List.map_set]
 exact (World.ownsRow.stored h j (bv b)).1
theorem Own.less {b:Nat}(h:Own w base e A n c l)(hb:b≤base):Own w b e A n c l:=by
 refine⟨h.1,?_⟩
 rcases h.2 with hv|⟨g,cap,cur,hv,h1,r⟩
 ·exact .inl hv
 ·exact .inr ⟨g,cap,cur,hv,Nat.le_trans hb h1,r⟩
theorem Own.drew (h:Own w base e A n c l):Own w.drew base e A n c l:=h
theorem Own.below (h:Own w base e A n c l)(hb:Below w.heap.size w w'):Own w' base e A n c l:=by
 refine⟨h.1,?_⟩
 rcases h.2 with hv|⟨g,cap,cur,hv,h1,hg,r⟩
 ·exact .inl hv
 ·exact .inr ⟨g,cap,cur,hv,h1,(hb.block g (Array.getElem?_eq_some_iff.1 hg).1).trans hg,r⟩
end
section
variable {P:Program}{t e:TypeId}(w:World)
theorem qjp (n:Nat):(madeCells (Value.int .u8 0).cells (n*1)).toList=(List.replicate n (0:UInt8)).map bv:=by
 rw[show (Value.int .u8 0).cells=#[.int .u8 0] from rfl,Nat.mul_one,toList_madeCells_one]
 simp[bv]
theorem qc8 (T:ByteT P t e){ops:Array Oper}{rest:List Oper}{o:Oper}{a:Act}{Q:Exit→Act→World→Prop}
  (hg:o.guard=none) (l c:Operand) (hop:o.op=Op.makeSlice t l c) (kl kc:IntKind) (n:Nat) (hl:a.eval l=.int kl (n:Int)) (hc:a.eval c=.int kc (n:Int)) (b2:n≤281474976710656)
  (hK:∀w',Own w' w.heap.size e (some ⟨w.heap.size,0,none⟩) n n (List.replicate n 0)→Below w.heap.size w w'→wpList P ops Q rest (a.put o.dst (.slice (some ⟨w.heap.size,0,none⟩) n n)) w') :
  wpList P ops Q (o::rest) a w:=by
 obtain⟨i,hi,hz0,hz1,hz2⟩:=info_parts T.info
 refine wpList_make_full w hg l c t hop w.heap.size e i _ 1 T.sl hi hz0 hz1 kl kc _ _ n hl hc rfl rfl (by rw[hz2];omega) (by unfold maxLen;omega) (Nat.le_refl _) fun w' h1 h2=>?_
 refine hK w' ?_ ((Below.refl _ _).grown h2 (Nat.le_refl _) (by simp))
 unfold Own;rw[←qjp];exact h1
theorem qc9 (T:ByteT P t e){ops:Array Oper}{rest:List Oper}{o:Oper}{a:Act}{Q:Exit→Act→World→Prop}
  (hg:o.guard=none) (l c:Operand) (hop:o.op=Op.makeSlice t l c) (kl kc:IntKind) (n:Nat) (hl:a.eval l=.int kl 0) (hc:a.eval c=.int kc (n:Int)) (b2:n≤281474976710656)
  (hK:∀w',Own w' w.heap.size e (some ⟨w.heap.size,0,none⟩) 0 n []→Below w.heap.size w w'→wpList P ops Q rest (a.put o.dst (.slice (some ⟨w.heap.size,0,none⟩) 0 n)) w') :
  wpList P ops Q (o::rest) a w:=by
 obtain⟨i,hi,hz0,hz1,hz2⟩:=info_parts T.info
 refine wpList_make_own w hg l c t hop w.heap.size e i _ 1 T.sl hi hz0 hz1 kl kc _ n hl hc rfl (by rw[hz2];omega) (by unfold maxLen;omega) (Nat.le_refl _) fun w' h1 h2=>?_
 exact hK w' h1 ((Below.refl _ _).grown h2 (Nat.le_refl _) (by simp))
theorem q3i (T:ByteT P t e)(ty:TypeId)(base:Nat)(A:Option Addr)(n c:Nat)(l:List UInt8)(hown:Own w base e A n c l)
  (B:Option Addr) (m d:Nat) (l2:List UInt8) (hr:Sl w B m d l2) (hnm:n+m≤140737488355328) (hbase:base≤w.heap.size) :
  ∃A' c' w',(Builtin.append_ #[t,t] ty #[.slice A n c,.slice B m d]).run P w=.ok (.slice A' (n+m) c') w'∧Own w' base e A' (n+m) c' (l++l2)∧Below base w w'∧
   w.grownBy w' (Value.ownBlock (.slice A n c)):=by
 obtain⟨i,hi,hz0,hz1,hz2⟩:=info_parts T.info
 have fin:∀v' w',(Builtin.append_ #[t,t] ty #[.slice A n c,.slice B m d]).run P w=.ok v' w'→w'.ownsRow base e 1 v' (n+m) (l.map bv++l2.map bv)→
   w.grownBy w' (Value.ownBlock (.slice A n c))→∃A' c' w',(Builtin.append_ #[t,t] ty #[.slice A n c,.slice B m d]).run P w=.ok (.slice A' (n+m) c') w'∧Own w' base e A' (n+m) c' (l++l2)∧Below base w w'∧
   w.grownBy w' (Value.ownBlock (.slice A n c)):=by
  intro v' w' h1 h2 h3
  have hb:Below base w w':=(Below.refl _ _).grown h3 hbase (fun k hk=>(hown.lt k hk).1)
  rw[←List.map_append] at h2
  rcases h2.2 with⟨rfl,h0⟩|⟨g,cap,cur,rfl,_⟩
  ·exact⟨none,0,w',by rw[h1,h0],by unfold Own;rw[h0] at h2 ⊢;exact h2,hb,h3⟩
  ·exact⟨_,_,w',h1,h2,hb,h3⟩
 rcases B with _|ad
 ·have hm:m=0:=by
   rcases Nat.eq_zero_or_pos m with h0|h0
   ·exact h0
   ·obtain⟨ad,h,_⟩:=hr.cell h0
    cases h
  subst hm
  have hn:l2=[]:=List.eq_nil_of_length_eq_zero hr.len
  subst hn
  refine fin (.slice A n c) w ?_ (by rw[Nat.add_zero,List.map_nil,List.append_nil];exact hown) (World.grownBy.refl w _)
  rcases hown.2 with⟨hv,rfl⟩|⟨g,cap,cur,hv,_,_,hnc,_⟩
  ·rw[hv];simp[Builtin.append_,run_underlying T.sl,sizeOf,typeInfo,hi,Builtin.lenOf,Builtin.firstCells]
  ·rw[hv];simp[Builtin.append_,run_underlying T.sl,sizeOf,typeInfo,hi,Builtin.lenOf,Builtin.firstCells,hnc,storeCells]
 ·have hcells:∀j u,(l2.map bv)[j]?=some u→w.cell? (ad.add j)=some u:=by
   intro j u hu
   obtain⟨ad',h,_,hc⟩:=hr.2.2.2 j u hu
   injection h with h
   subst h
   exact hc
  obtain⟨v',w',h1,h2,h3,_,_⟩:=run_append_own_at (P:=P) w base t ty e i _ 1 1 T.sl hi hz0 hz1 hz2 rfl (by omega) _ n _ hown ad m d (l2.map bv) (by have:=hr.len;simpa using this) hcells (qc7 _) (by unfold maxLen;omega) (by omega) hbase
  exact fin v' w' h1 h2 h3
theorem q0x (T:ByteT P t e){ops:Array Oper}{rest:List Oper}{o:Oper}{a:Act}{Q:Exit→Act→World→Prop}(hgd:o.guard=none)(s x:Operand)
  (ho:o.op=.call { callee:=.builtin .append,args:=#[s,x],argTypes:=#[t,t] })
  (base:Nat) (A:Option Addr) (n c:Nat) (l:List UInt8) (hs:a.eval s=.slice A n c) (hown:Own w base e A n c l)
  (B:Option Addr) (m d:Nat) (l2:List UInt8) (hx:a.eval x=.slice B m d) (hr:Sl w B m d l2) (hnm:n+m≤140737488355328) (hbase:base≤w.heap.size)
  (h:∀A' c' w',Own w' base e A' (n+m) c' (l++l2)→Below base w w'→wpList P ops Q rest (a.put o.dst (.slice A' (n+m) c')) w'):wpList P ops Q (o::rest) a w:=
 wpList_plain hgd fun K hK=>by
  obtain⟨A',c',w',hrun,h2,h3,_⟩:=q3i (P:=P) w T o.type base A n c l hown B m d l2 hr hnm hbase
  unfold Oper.wp execOp
  simp only[ho,resolve,invoke,builtin,Sem.run_bind,Sem.run_pure,Result.andThen_ok,List.map_toArray,List.map_cons,List.map_nil,hs,hx,hrun]
  exact hK _ _ (h A' c' w' h2 h3)
end
def nth (ls:List (List UInt8))(j:Nat):List UInt8:=ls.getD j []
def Parts (w:World)(A:Option Addr)(k c:Nat)(ls:List (List UInt8)):Prop:=
 ls.length=k∧k≤c∧c≤maxLen∧∀(j:Nat) l,ls[j]?=some l→∃ad B n d,A=some ad∧ad.block<w.heap.size∧w.cell? (ad.add j)=some (.slice B n d)∧Sl w B n d l
section
variable {w w':World}{k c:Nat}{A:Option Addr}{ls:List (List UInt8)}
theorem Parts.len (h:Parts w A k c ls):ls.length=k:=h.1
theorem Parts.below (h:Parts w A k c ls)(hb:Below w.heap.size w w'):Parts w' A k c ls:=
 ⟨h.1,h.2.1,h.2.2.1,fun j l hl=>by
  obtain⟨ad,B,n,d,e,hlt,hc,hs⟩:=h.2.2.2 j l hl
  exact⟨ad,B,n,d,e,Nat.lt_of_lt_of_le hlt hb.size,(hb.cell (by rw[q0n];exact hlt)).trans hc,hs.below hb⟩⟩
theorem Parts.cell (h:Parts w A k c ls){j:Nat}(hj:j<k):∃ad B n d,A=some ad∧ad.block<w.heap.size∧w.cell? (ad.add j)=some (.slice B n d)∧Sl w B n d (nth ls j):=by
 have hl:j<ls.length:=by have:=h.1;omega
 have hg:ls[j]?=some (nth ls j):=by simp[nth,List.getD,hl]
 exact h.2.2.2 j _ hg
end
def cat (ls:List (List UInt8))(j:Nat):List UInt8:=(ls.take j).flatten
def tot (ls:List (List UInt8))(j:Nat):Nat:=(cat ls j).length
theorem qni (ls:List (List UInt8)):cat ls 0=[]:=by simp[cat]
theorem qnj (ls:List (List UInt8)):tot ls 0=0:=by simp[tot,cat]
theorem qg6 (ls:List (List UInt8))(k:Nat)(h:k<ls.length):cat ls (k+1)=cat ls k++nth ls k:=by
 unfold cat nth
 rw[List.take_succ_eq_append_getElem h,List.flatten_append];simp[List.getD,h]
theorem qg7 (ls:List (List UInt8))(k:Nat)(h:k<ls.length):tot ls (k+1)=tot ls k+(nth ls k).length:=by
 unfold tot
 rw[qg6 ls k h,List.length_append]
theorem qpp (ls:List (List UInt8))(k m:Nat)(h:k≤m):tot ls k≤tot ls m:=by
 unfold tot cat
 have e:(ls.take m).flatten=(ls.take k).flatten++((ls.take m).drop k).flatten:=by
  rw[←List.flatten_append]
  congr 1
  have h2:=List.take_append_drop k (ls.take m)
  rw[List.take_take,Nat.min_eq_left h] at h2
  exact h2.symm
 rw[e,List.length_append];omega
theorem Sl.alloc {w:World}{A:Option Addr}{n c:Nat}{l:List UInt8}(h:Sl w A n c l)(o:Obj):Sl (w.alloc o) A n c l:=h.below ((Below.refl _ _).alloc (Nat.le_refl _) o)
theorem q46 (w:World)(cs:Array Value)(t:TypeId)(j:Nat):(w.alloc (.cells cs t)).cell? ((⟨w.heap.size,0,none⟩:Addr).add j)=cs[j]?:=by
 rw[Addr.add_lit,Nat.zero_add]
 exact cell_of_row (w.alloc (.cells cs t)) w.heap.size j cs t (0,0) (heap_alloc_new w _)
theorem parts1 {w:World}(t:TypeId){B:Option Addr}{n d:Nat}{l:List UInt8}(h:Sl w B n d l):Parts (w.alloc (.cells #[.slice B n d] t)) (some ⟨w.heap.size,0,none⟩) 1 1 [l]:=by
 refine⟨rfl,Nat.le_refl _,by unfold maxLen;omega,fun j l' hl=>?_⟩
 rcases j with _|j
 ·obtain rfl:l=l':=by simpa using hl
  exact⟨_,B,n,d,rfl,by simp,q46 w _ t 0,h.alloc _⟩
 ·simp at hl
theorem parts2 {w:World}(t:TypeId){B B2:Option Addr}{n d n2 d2:Nat}{l l2:List UInt8}(h:Sl w B n d l)(h2:Sl w B2 n2 d2 l2) :
  Parts (w.alloc (.cells #[.slice B n d,.slice B2 n2 d2] t)) (some ⟨w.heap.size,0,none⟩) 2 2 [l,l2]:=by
 refine⟨rfl,Nat.le_refl _,by unfold maxLen;omega,fun j l' hl=>?_⟩
 rcases j with _|_|j
 ·obtain rfl:l=l':=by simpa using hl
  exact⟨_,B,n,d,rfl,by simp,q46 w _ t 0,h.alloc _⟩
 ·obtain rfl:l2=l':=by simpa using hl
  exact⟨_,B2,n2,d2,rfl,by simp,q46 w _ t 1,h2.alloc _⟩
 ·simp at hl
theorem parts3 {w:World}(t:TypeId){B B2 B3:Option Addr}{n d n2 d2 n3 d3:Nat}{l l2 l3:List UInt8}(h:Sl w B n d l)(h2:Sl w B2 n2 d2 l2)(h3:Sl w B3 n3 d3 l3) :
  Parts (w.alloc (.cells #[.slice B n d,.slice B2 n2 d2,.slice B3 n3 d3] t)) (some ⟨w.heap.size,0,none⟩) 3 3 [l,l2,l3]:=by
 refine⟨rfl,Nat.le_refl _,by unfold maxLen;omega,fun j l' hl=>?_⟩
 rcases j with _|_|_|j
 ·obtain rfl:l=l':=by simpa using hl
  exact⟨_,B,n,d,rfl,by simp,q46 w _ t 0,h.alloc _⟩
 ·obtain rfl:l2=l':=by simpa using hl
  exact⟨_,B2,n2,d2,rfl,by simp,q46 w _ t 1,h2.alloc _⟩
 ·obtain rfl:l3=l':=by simpa using hl
  exact⟨_,B3,n3,d3,rfl,by simp,q46 w _ t 2,h3.alloc _⟩
 ·simp at hl
theorem cat1 (l:List UInt8):cat [l] 1=l:=by simp[cat]
theorem cat2 (l l2:List UInt8):cat [l,l2] 2=l++l2:=by simp[cat]
theorem cat3 (l l2 l3:List UInt8):cat [l,l2,l3] 3=l++(l2++l3):=by simp[cat]
theorem tot1 (l:List UInt8):tot [l] 1=l.length:=by simp[tot,cat]
theorem tot2 (l l2:List UInt8):tot [l,l2] 2=l.length+l2.length:=by simp[tot,cat]
theorem tot3 (l l2 l3:List UInt8):tot [l,l2,l3] 3=l.length+(l2.length+l3.length):=by simp[tot,cat]
theorem q11 (w:World)(e:TypeId):Own (w.alloc (.cells #[] e)) w.heap.size e (some ⟨w.heap.size,0,none⟩) 0 0 []:=
 World.ownsRow_lit (size:=1) w #[] 0 (Nat.le_refl _) (Nat.zero_le _) rfl
theorem qqm (w:World)(e:TypeId)(l:List UInt8)(cs:Array Value)(h:cs.toList=l.map bv)(hm:l.length≤16777216):Own (w.alloc (.cells cs e)) w.heap.size e (some ⟨w.heap.size,0,none⟩) l.length l.length l:=by
 have hs:cs.size=l.length:=by rw[←Array.length_toList,h,List.length_map]
 have:=World.ownsRow_lit (e:=e) (size:=1) w cs l.length (Nat.le_refl _) (by unfold maxLen;omega) (by omega)
 rw[h] at this
 exact this
theorem Own.alloc {w:World}{base:Nat}{e:TypeId}{A:Option Addr}{n c:Nat}{l:List UInt8}(h:Own w base e A n c l)(o:Obj):Own (w.alloc o) base e A n c l:=
 h.below ((Below.refl _ _).alloc (Nat.le_refl _) o)
theorem qej (w:World)(e:TypeId)(b:UInt8)(v:Value)(h:bv b=v):Own (w.alloc (.cells #[v] e)) w.heap.size e (some ⟨w.heap.size,0,none⟩) 1 1 [b]:=
 qqm w e [b] #[v] (by rw[←h];rfl) (by simp)
theorem q2p {w w':World}(o:Obj){B:Nat}(hb:Below B (w.alloc o) w')(hB:B≤w.heap.size):Below B w w':=((Below.refl _ _).alloc hB o).trans hb
theorem q0s {B:Nat}{a w:World}(h:Below B a w)(n:Nat):Below B a (w.drewN n):=⟨h.os,h.tape,h.output,h.size,h.block⟩
theorem qhr (l:List UInt8)(b:ByteArray):(l.map (fun x:UInt8=>(x.toNat:Int))).foldl (fun r n=>r.push (UInt8.ofNat n.toNat)) b=⟨b.data++l.toArray⟩:=by
 induction l generalizing b with
 |nil=>simp
 |cons x l ih=>
  rw[List.map_cons,List.foldl_cons,ih]
  have e:UInt8.ofNat ((x.toNat:Int)).toNat=x:=by simp
  rw[e]
  cases b
  simp[ByteArray.push]
theorem q59 {P:Program}(src dst e:TypeId)(T:ByteT P src e)(he:P.underlying e=some (.int .u8))(hd:P.underlying dst=some .string){w:World}{A:Option Addr}{n c:Nat}{l:List UInt8}(h:Sl w A n c l) :
  (convert src dst (.slice A n c)).run P w=.ok (.string ⟨l.toArray⟩) w:=by
 rw[run_convert_bytes_string w src dst e A n c T.sl he hd]
 rcases A with _|a
 ·have hl:l=[]:=by
   rcases l with _|⟨x,l⟩
   ·rfl
   ·obtain⟨ad,h',_⟩:=h.2.2.2 0 (bv x) rfl
    cases h'
  subst hl
  simp[Conv.bytesToString,Sem.run_pure]
  rfl
 ·have hc:∀(j:Nat) v,(l.map bv)[j]?=some v→w.cell? (a.add j)=some v:=fun j u hu=>by
   obtain⟨ad,h',_,hc⟩:=h.2.2.2 j u hu
   injection h' with h'
   subst h'
   exact hc
  have h2:=run_loadCells_list (P:=P) w a (l.map bv) hc
  rw[List.length_map,h.len] at h2
  have e2:l.map bv=(l.map (fun x:UInt8=>(x.toNat:Int))).map (Value.int .u8):=by simp[bv,Function.comp_def]
  rw[e2] at h2
  rw[run_bytesToString w a n c _ h2,qhr]
  simp[ByteArray.empty,ByteArray.emptyWithCapacity]
  rfl
theorem q4t (w:World)(e:TypeId)(s:ByteArray)(h:s.size≤maxLen):Sl (Lib.bytesWorld w e s) (some ⟨w.heap.size,0,none⟩) s.size (grownCap w s.size 0 e) s.data.toList:=by
 refine⟨by simp,grownCap_ge _ _ _ _,grownCap_le_maxLen _ _ _ _ h,fun j u hu=>⟨_,rfl,by rw[Lib.bytesWorld_size];simp,?_⟩⟩
 have hj:j<s.size:=by have:=(List.getElem?_eq_some_iff.1 hu).1;simpa using this
 rw[Addr.add_lit,Nat.zero_add,Lib.bytesWorld_cell w e s j hj]
 have hj2:j<s.data.toList.length:=by simpa using hj
 rw[List.getElem?_map,List.getElem?_eq_getElem hj2] at hu
 rw[←hu,List.getD_eq_getElem?_getD,List.getElem?_eq_getElem hj2]
 rfl
theorem q2g (w:World)(e:TypeId)(s:ByteArray):Below w.heap.size w (Lib.bytesWorld w e s):=
 ⟨rfl,rfl,rfl,by rw[Lib.bytesWorld_size];omega,fun k hk=>Lib.bytesWorld_at_old w e s k hk⟩
theorem q0k (w:World):Sl w none 0 0 []:=⟨rfl,Nat.le_refl _,Nat.zero_le _,fun j u hu=>by simp at hu⟩
section
variable {P:Program}{t e:TypeId}(w:World)
theorem q54 (T:ByteT P t e)(ty:TypeId)(base g:Nat)(hown:Own w base e (some ⟨g,0,none⟩) 0 0 [])
  (B:Option Addr) (m d:Nat) (l2:List UInt8) (hr:Sl w B m d l2) (hnm:m≤140737488355328) (hbase:base≤w.heap.size) :
  ∃A' c' w',(Builtin.append_ #[t,t] ty #[.slice (some ⟨g,0,none⟩) 0 0,.slice B m d]).run P w=.ok (.slice A' m c') w'∧Own w' base e A' m c' l2∧Below w.heap.size w w':=by
 obtain⟨i,hi,hz0,hz1,hz2⟩:=info_parts T.info
 rcases Nat.eq_zero_or_pos m with h0|h0
 ·subst h0
  have hn:l2=[]:=List.eq_nil_of_length_eq_zero hr.len
  subst hn
  refine⟨some ⟨g,0,none⟩,0,w,?_,hown,Below.refl _ _⟩
  rcases B with _|ad
  ·simp[Builtin.append_,run_underlying T.sl,sizeOf,typeInfo,hi,Builtin.lenOf,Builtin.firstCells,storeCells]
  ·simp[Builtin.append_,run_underlying T.sl,sizeOf,typeInfo,hi,Builtin.lenOf,Builtin.firstCells,storeCells,loadCells,loadCellsFrom]
 ·obtain⟨ad,rfl,_⟩:=hr.cell h0
  have hcells:∀j u,(l2.map bv)[j]?=some u→w.cell? (ad.add j)=some u:=by
   intro j u hu
   obtain⟨ad',h,_,hc⟩:=hr.2.2.2 j u hu
   injection h with h
   subst h
   exact hc
  have hl:(l2.map bv).length=m:=by have:=hr.len;simpa using this
  have hrun:=run_append_grow (P:=P) w t ty e i _ T.sl hi hz0 ⟨g,0,none⟩ 0 0 [] (by simp) (by simp) ad m d (l2.map bv) (by rw[hz1,hl];omega) hcells (by omega) (by omega) (growslice_fits (by omega) (by rw[hz2];omega))
  rw[Nat.zero_add] at hrun
  have hge:=grownCap_ge w m 0 e
  refine⟨_,_,_,hrun,⟨by rw[hl];omega,.inr ⟨w.heap.size,_,_,rfl,hbase,heap_alloc_new w.drew _,hge,grownCap_le_maxLen w m 0 e (by unfold maxLen;omega),?_,?_⟩⟩,(Below.refl _ _).drew.alloc (Nat.le_refl _) _⟩
  ·simp only[Array.size_append,List.size_toArray,size_zeroCells,List.length_nil,hl,show (Value.int .u8 0).cells.size=1 from rfl]
   omega
  ·simp only[Array.toList_append,List.nil_append]
   rw[List.take_append_of_le_length (by simp;have:=hr.len;omega)]
   simp[List.take_of_length_le,hr.len]
theorem q33 (T:ByteT P t e){o:Oper}{a:Act}{K:Act→World→Prop}{Q:Exit→Act→World→Prop}(s x:Operand)
  (ho:o.op=.call { callee:=.builtin .append,args:=#[s,x],argTypes:=#[t,t] })
  (base g:Nat) (hs:a.eval s=.slice (some ⟨g,0,none⟩) 0 0) (hown:Own w base e (some ⟨g,0,none⟩) 0 0 [])
  (B:Option Addr) (m d:Nat) (l2:List UInt8) (hx:a.eval x=.slice B m d) (hr:Sl w B m d l2) (hnm:m≤140737488355328) (hbase:base≤w.heap.size)
  (h:∀A' c' w',Own w' base e A' m c' l2→Below w.heap.size w w'→K (a.put o.dst (.slice A' m c')) w'):o.wp P a w K Q:=by
 obtain⟨A',c',w',hrun,h2,h3⟩:=q54 (P:=P) w T o.type base g hown B m d l2 hr hnm hbase
 unfold Oper.wp execOp
 simp only[ho,resolve,invoke,builtin,Sem.run_bind,Sem.run_pure,Result.andThen_ok,List.map_toArray,List.map_cons,List.map_nil,hs,hx,hrun]
 exact h A' c' w' h2 h3
theorem q1q (T:ByteT P t e){ops:Array Oper}{rest:List Oper}{o:Oper}{a:Act}{Q:Exit→Act→World→Prop}(hgd:o.guard=none)(s x:Operand)
  (ho:o.op=.call { callee:=.builtin .append,args:=#[s,x],argTypes:=#[t,t] })
  (base g:Nat) (hs:a.eval s=.slice (some ⟨g,0,none⟩) 0 0) (hown:Own w base e (some ⟨g,0,none⟩) 0 0 [])
  (B:Option Addr) (m d:Nat) (l2:List UInt8) (hx:a.eval x=.slice B m d) (hr:Sl w B m d l2) (hnm:m≤140737488355328) (hbase:base≤w.heap.size)
  (h:∀A' c' w',Own w' base e A' m c' l2→Below w.heap.size w w'→wpList P ops Q rest (a.put o.dst (.slice A' m c')) w'):wpList P ops Q (o::rest) a w:=
 wpList_plain hgd fun _ hK=>q33 w T s x ho base g hs hown B m d l2 hx hr hnm hbase fun A' c' w' h1 h2=>hK _ _ (h A' c' w' h1 h2)
end
def txt (ss:List ByteArray)(k:Nat):ByteArray:=ss.getD k ByteArray.empty
def StrSl (w:World)(A:Option Addr)(n c:Nat)(ss:List ByteArray):Prop:=
 Holds w w.heap.size A n c (ss.map Value.string)∧∀s∈ss,s.size≤maxLen
section
variable {w w':World}{n c:Nat}{A:Option Addr}{ss:List ByteArray}
theorem StrSl.len (h:StrSl w A n c ss):ss.length=n:=by simpa using h.1.1
theorem StrSl.cap (h:StrSl w A n c ss):n≤c:=h.1.2.1
theorem StrSl.max (h:StrSl w A n c ss):c≤maxLen:=h.1.2.2.1
theorem StrSl.below (h:StrSl w A n c ss)(hb:Below w.heap.size w w'):StrSl w' A n c ss:=⟨(Holds.below h.1 hb).more hb.size,h.2⟩
theorem StrSl.cell (h:StrSl w A n c ss){k:Nat}(hk:k<n):∃ad,A=some ad∧ad.block<w.heap.size∧w.cell? (ad.add k)=some (.string (txt ss k))∧(txt ss k).size≤maxLen:=by
 have hl:k<ss.length:=by have:=h.len;omega
 have e:txt ss k=ss[k]:=by unfold txt;rw[List.getD_eq_getElem?_getD,List.getElem?_eq_getElem hl];rfl
 obtain⟨ad,ha,hb,hc⟩:=h.1.2.2.2 k (.string ss[k]) (by simp[hl])
 exact⟨ad,ha,hb,by rw[e];exact hc,by rw[e];exact h.2 _ (List.getElem_mem hl)⟩
end
section
open Go.ChangeMaps (setBlock)
def kI (e:MapEntry):Int:=match e.key with|.int _ z=>z|_=>0
def getE (s:Int):List MapEntry→Option Value
 |[]=>none
 |e::r=>if kI e=s then some e.val else getE s r
def putE (s:Int)(v:Value)(c:Nat):List MapEntry→List MapEntry
 |[]=>[{ key:=.int .i64 s,val:=v,born:=c }]
 |e::r=>if kI e=s then { e with key:=.int .i64 s,val:=v }::r else e::putE s v c r
def delE (s:Int):List MapEntry→List MapEntry
 |[]=>[]
 |e::r=>if kI e=s then r else e::delE s r
structure Ents (l:List MapEntry)(clock:Nat):Prop where
 key:∀e∈l,e.key=.int .i64 (kI e)
 one:(l.map kI).Nodup
 born:(l.map (·.born)).Nodup
 clock:∀e∈l,e.born<clock
theorem kI_mk (s:Int)(v:Value)(c:Nat):kI { key:=.int .i64 s,val:=v,born:=c }=s:=rfl
theorem q7g {s:Int}{v:Value}:∀{l:List MapEntry},getE s l=some v→∃e∈l,kI e=s∧e.val=v
 |[],h=>by cases h
 |e::r,h=>by
  unfold getE at h
  split at h
  ·exact⟨e,by simp,by assumption,by simpa using h⟩
  ·obtain⟨x,hx,h2⟩:=q7g h
   exact⟨x,by simp[hx],h2⟩
theorem qca {s:Int}:∀{l:List MapEntry},getE s l=none→∀e∈l,kI e≠s
 |[],_,e,he=>by cases he
 |x::r,h,e,he=>by
  unfold getE at h
  split at h
  ·cases h
  ·rcases List.mem_cons.1 he with rfl|h2
   ·assumption
   ·exact qca h e h2
theorem q2q {l:List MapEntry}(hn:(l.map kI).Nodup){e:MapEntry}(he:e∈l):getE (kI e) l=some e.val:=by
 induction l with
 |nil=>cases he
 |cons x r ih=>
  unfold getE
  rw[List.map_cons,List.nodup_cons] at hn
  rcases List.mem_cons.1 he with rfl|h2
  ·simp
  ·rw[if_neg (fun h=>hn.1 (by rw[h];exact List.mem_map.2 ⟨e,h2,rfl⟩))]
   exact ih hn.2 h2
theorem qau (s:Int)(v:Value)(c:Nat)(z:Int):∀l:List MapEntry,getE z (putE s v c l)=if z=s then some v else getE z l
 |[]=>by
  unfold putE getE
  rw[kI_mk]
  by_cases h:s=z
  ·simp[h]
  ·have:¬z=s:=fun e=>h e.symm
   simp[h,this,getE]
 |e::r=>by
  unfold putE
  by_cases h:kI e=s
  ·rw[if_pos h]
   by_cases hz:s=z
   ·subst hz;simp[getE,kI]
   ·have hz':¬z=s:=fun e=>hz e.symm
    have hz2:¬kI e=z:=fun e=>hz (h.symm.trans e)
    have hz3:¬kI { e with key:=.int .i64 s,val:=v }=z:=hz
    unfold getE
    rw[if_neg hz3,if_neg hz',if_neg hz2]
  ·rw[if_neg h]
   unfold getE
   rw[qau s v c z r]
   by_cases hz:kI e=z
   ·have:¬z=s:=fun e2=>h (hz.trans e2)
    simp[hz,this]
   ·simp[hz]
theorem q7h {s:Int}(z:Int):∀{l:List MapEntry},(l.map kI).Nodup→getE z (delE s l)=if z=s then none else getE z l
 |[],_=>by simp[delE,getE]
 |e::r,hn=>by
  rw[List.map_cons,List.nodup_cons] at hn
  unfold delE
  by_cases h:kI e=s
  ·rw[if_pos h]
   by_cases hz:z=s
   ·rw[if_pos hz,hz]
    cases hg:getE s r with
    |none=>rfl
    |some v=>
     obtain⟨x,hx,h2,_⟩:=q7g hg
     exact absurd (List.mem_map.2 ⟨x,hx,h2.trans h.symm⟩) hn.1
   ·rw[if_neg hz]
    have hr:getE z (e::r)=getE z r:=by
     show (if kI e=z then some e.val else getE z r)=_
     rw[if_neg (fun e2=>hz (e2.symm.trans h))]
    exact hr.symm
  ·rw[if_neg h]
   unfold getE
   rw[q7h z hn.2]
   by_cases hz:kI e=z
   ·have:¬z=s:=fun e2=>h (hz.trans e2)
    simp[hz,this]
   ·simp[hz]
theorem q7z {s:Int}{v:Value}{c:Nat}:∀{l:List MapEntry} {e:MapEntry},e∈putE s v c l→e∈l∨(e.key=.int .i64 s∧(e.born=c∨∃x∈l,x.born=e.born))
 |[],e,h=>by
  simp[putE] at h;subst h;exact .inr ⟨rfl,.inl rfl⟩
 |x::r,e,h=>by
  unfold putE at h
  split at h
  ·rcases List.mem_cons.1 h with rfl|h2
   ·exact .inr ⟨rfl,.inr ⟨x,by simp,rfl⟩⟩
   ·exact .inl (by simp[h2])
  ·rcases List.mem_cons.1 h with rfl|h2
   ·exact .inl (by simp)
   ·rcases q7z h2 with h3|⟨h3,h4⟩
    ·exact .inl (by simp[h3])
    ·refine .inr ⟨h3,h4.imp id fun ⟨y,hy,h5⟩=>⟨y,by simp[hy],h5⟩⟩
theorem q5a {s:Int}:∀{l:List MapEntry} {e:MapEntry},e∈delE s l→e∈l
 |[],e,h=>by cases h
 |x::r,e,h=>by
  unfold delE at h
  split at h
  ·simp[h]
  ·rcases List.mem_cons.1 h with rfl|h2
   ·simp
   ·simp[q5a h2]
theorem qek {s:Int}:∀(l:List MapEntry),List.Sublist (delE s l) l
 |[]=>.slnil
 |x::r=>by
  unfold delE
  split
  ·exact List.sublist_cons_self ..
  ·exact (qek r).cons_cons x
theorem qpq {s:Int}{v:Value}{c:Nat}:∀(l:List MapEntry),(putE s v c l).map kI=if getE s l=none then l.map kI++[s] else l.map kI
 |[]=>by simp[putE,getE,kI]
 |x::r=>by
  unfold putE getE
  by_cases h:kI x=s
  ·rw[if_pos h,if_pos h,if_neg (by simp)]
   simp[kI] at h ⊢
   exact h.symm
  ·rw[if_neg h,if_neg h,List.map_cons,qpq r]
   split<;>simp
theorem qav {s:Int}{v:Value}{c:Nat}:∀(l:List MapEntry),(putE s v c l).map (·.born)=if getE s l=none then l.map (·.born)++[c] else l.map (·.born)
 |[]=>by simp[putE,getE]
 |x::r=>by
  unfold putE getE
  by_cases h:kI x=s
  ·rw[if_pos h,if_pos h,if_neg (by simp)]
   simp
  ·rw[if_neg h,if_neg h,List.map_cons,qav r]
   split<;>simp
theorem q9o {s:Int}:∀(l:List MapEntry),(delE s l).length=if getE s l=none then l.length else l.length-1
 |[]=>by simp[delE,getE]
 |x::r=>by
  unfold delE getE
  by_cases h:kI x=s
  ·simp[h]
  ·rw[if_neg h,if_neg h,List.length_cons,q9o r]
   split
   ·simp
   ·rename_i hg
    have:0<r.length:=by
     rcases r with _|⟨a,b⟩
     ·exact absurd rfl hg
     ·simp
    simp;omega
theorem qnk:Ents [] 0:=⟨by simp,by simp,by simp,by simp⟩
theorem Ents.put {l:List MapEntry}{clock:Nat}(h:Ents l clock)(s:Int)(v:Value):Ents (putE s v clock l) (if getE s l=none then clock+1 else clock):=by
 have hc:∀e∈putE s v clock l,e.born<clock+1:=fun e he=>by
  rcases q7z he with h2|⟨_,h2|⟨x,hx,h2⟩⟩
  ·have:=h.clock e h2;omega
  ·omega
  ·have:=h.clock x hx;omega
 refine⟨fun e he=>?_,?_,?_,fun e he=>?_⟩
 ·rcases q7z he with h2|⟨h2,_⟩
  ·exact h.key e h2
  ·unfold kI;rw[h2]
 ·rw[qpq]
  split
  ·rename_i hg
   rw[List.nodup_append]
   refine⟨h.one,by simp,fun a ha b hb=>?_⟩
   obtain rfl:b=s:=by simpa using hb
   obtain⟨e,he,rfl⟩:=List.mem_map.1 ha
   exact qca hg e he
  ·exact h.one
 ·rw[qav]
  split
  ·rw[List.nodup_append]
   refine⟨h.born,by simp,fun a ha b hb=>?_⟩
   obtain rfl:b=clock:=by simpa using hb
   obtain⟨e,he,rfl⟩:=List.mem_map.1 ha
   have:=h.clock e he
   show e.born≠b
   omega
  ·exact h.born
 ·by_cases hg:getE s l=none
  ·rw[if_pos hg];exact hc e he
  ·rw[if_neg hg]
   have hb:e.born∈(putE s v clock l).map (·.born):=List.mem_map.2 ⟨e,he,rfl⟩
   rw[qav,if_neg hg] at hb
   obtain⟨x,hx,h2⟩:=List.mem_map.1 hb
   have:=h.clock x hx
   rw[←h2];exact this
theorem Ents.del {l:List MapEntry}{clock:Nat}(h:Ents l clock)(s:Int):Ents (delE s l) clock:=
 ⟨fun e he=>h.key e (q5a he),h.one.sublist ((qek l).map kI),h.born.sublist ((qek l).map _),fun e he=>h.clock e (q5a he)⟩
theorem q80 (s:Int):∀(l:List MapEntry) (i:Nat),(∀e∈l,e.key=.int .i64 (kI e))→
  (Instr.findNow (.int .i64) (.int .i64 s) l i=some none∧getE s l=none∧(∀v c,putE s v c l=l++[{ key:=.int .i64 s,val:=v,born:=c }])∧delE s l=l)∨
  ∃j e,Instr.findNow (.int .i64) (.int .i64 s) l i=some (some (i+j,e.val))∧l[j]?=some e∧e.key=.int .i64 s∧getE s l=some e.val∧
   (∀v c,putE s v c l=l.modify j fun e=>{ e with key:=.int .i64 s,val:=v })∧delE s l=l.eraseIdx j
 |[],i,_=>.inl ⟨rfl,rfl,fun _ _=>rfl,rfl⟩
 |x::r,i,hk=>by
  have hx:=hk x (by simp)
  by_cases h:kI x=s
  ·refine .inr ⟨0,x,?_,rfl,by rw[hx,h],by simp[getE,h],fun v c=>by simp[putE,h],by simp[delE,h]⟩
   rw[Instr.findNow,hx,h]
   simp[Instr.sameNow]
  ·have hs:Instr.findNow (.int .i64) (.int .i64 s) (x::r) i=Instr.findNow (.int .i64) (.int .i64 s) r (i+1):=by
    have hse:(s==kI x)=false:=by rw[beq_eq_false_iff_ne];exact fun e=>h e.symm
    rw[Instr.findNow,hx]
    simp[Instr.sameNow,hse]
   rcases q80 s r (i+1) (fun e he=>hk e (by simp[he])) with⟨h1,h2,h3,h4⟩|⟨j,e,h1,h2,h3,h4,h5,h6⟩
   ·exact .inl ⟨hs.trans h1,by simp[getE,h,h2],fun v c=>by simp[putE,h,h3],by simp[delE,h,h4]⟩
   ·refine .inr ⟨j+1,e,by rw[hs,h1];congr 3;omega,by simpa using h2,h3,by simp[getE,h,h4],fun v c=>by simp[putE,h,h5],by simp[delE,h,h6]⟩
section
variable {P:Program}{w:World}{t k e b clock:Nat}{l:List MapEntry}
theorem q47 (E:Ents l clock)(ht:P.underlying t=some (.map k e))(hk:P.underlying k=some (.int .i64)){z:Value}(hz:(zeroValue e).run P w=.ok z w)(hb:w.heap[b]?=some (.map l.toArray clock))(s:Int) :
  (Instr.lookup t (.map (some b)) (.int .i64 s) false).run P w=.ok ((getE s l).getD z) w:=by
 have hc:=fun em=>MapKept.run_checkKey (P:=P) (w:=w) hk (k:=.int .i64 s) rfl em 9999
 rcases q80 s l 0 E.key with⟨h1,h2,_⟩|⟨j,x,h1,_,_,h4,_⟩
 ·have hf:=MapKept.run_findKey (P:=P) (w:=w) hk h1
  simp[Instr.lookup,run_underlying ht,MapKept.run_getObj_map hb,hc,hf,hz,h2]
 ·have hf:=MapKept.run_findKey (P:=P) (w:=w) hk h1
  simp[Instr.lookup,run_underlying ht,MapKept.run_getObj_map hb,hc,hf,h4]
theorem q1r (E:Ents l clock)(ht:P.underlying t=some (.map k e))(hk:P.underlying k=some (.int .i64))(hb:w.heap[b]?=some (.map l.toArray clock))(s:Int)(v:Value) :
  (Instr.mapUpdate t (.map (some b)) (.int .i64 s) v).run P w=.ok () (setBlock w b (.map (putE s v clock l).toArray (if getE s l=none then clock+1 else clock))):=by
 have hc:=fun em=>MapKept.run_checkKey (P:=P) (w:=w) hk (k:=.int .i64 s) rfl em 9999
 rcases q80 s l 0 E.key with⟨h1,h2,h3,_⟩|⟨j,x,h1,hj,h3,h4,h5,_⟩
 ·have hf:=MapKept.run_findKey (P:=P) (w:=w) hk h1
  simp[Instr.mapUpdate,run_underlying ht,MapKept.run_getObj_map hb,hc,hf,h2,h3,MapKept.run_setObj_map _ hb,setBlock]
 ·have hf:=MapKept.run_findKey (P:=P) (w:=w) hk h1
  rw[Nat.zero_add] at hf
  have hks:(Instr.keyThatStays (.int .i64 s) (.int .i64 s)).run P w=.ok (.int .i64 s) w:=by
   simp[Instr.keyThatStays,Instr.sameBits]
  simp[Instr.mapUpdate,run_underlying ht,MapKept.run_getObj_map hb,hc,hf,h4,h5,hj,h3,hks,MapKept.run_setObj_map _ hb,setBlock]
theorem q48 (E:Ents l clock)(ht:P.underlying t=some (.map k e))(hk:P.underlying k=some (.int .i64))(hb:w.heap[b]?=some (.map l.toArray clock))(s:Int)(u ty:TypeId) :
  (Builtin.delete_ #[t,u] ty #[.map (some b),.int .i64 s]).run P w=.ok (.tuple #[]) (setBlock w b (.map (delE s l).toArray clock)):=by
 have hc:=fun em=>MapKept.run_checkKey (P:=P) (w:=w) hk (k:=.int .i64 s) rfl em 9999
 rcases q80 s l 0 E.key with⟨h1,h2,_,h4⟩|⟨j,x,h1,hj,h3,_,_,h6⟩
 ·have hf:=MapKept.run_findKey (P:=P) (w:=w) hk h1
  simp[Builtin.delete_,run_underlying ht,MapKept.run_getObj_map hb,hc,hf,h4,MapKept.run_setObj_map _ hb,setBlock]
 ·have hf:=MapKept.run_findKey (P:=P) (w:=w) hk h1
  rw[Nat.zero_add] at hf
  simp[Builtin.delete_,run_underlying ht,MapKept.run_getObj_map hb,hc,hf,h6,MapKept.run_setObj_map _ hb,setBlock]
end
end
end Go.Proofs.YtipejjgodnnkaaaGreatDoor
