/- The reference's counts: New -/
import Derived.Test.YtipejjgodnnkaaaGreatDoorPm11
import Derived.Laws.CopyOwn
namespace Go.Proofs.YtipejjgodnnkaaaGreatDoor
open Go Go.RowKit Go.Proofs
set_option maxHeartbeats 4000000
set_option maxRecDepth 10000
def mkI (a b:Value):Sem Value:=Instr.makeSlice 33 a b
theorem qgj (a b:Value):Instr.makeSlice 33 a b=mkI a b:=rfl
def litI (n:Nat)(w:World):World:=w.alloc (.cells (madeCells #[.int .i64 0] (n*1)) 3)
theorem qb7 (n:Nat)(hn:n≤1000000)(w:World):(mkI (.int .i64 (n:Int)) (.int .i64 (n:Int))).run Tryz.prog w=.ok (.slice (some ⟨w.heap.size,0,none⟩) n n) (litI n w):=by
 obtain⟨i,hi,hz0,hz1,hz2⟩:=info_parts TN.info
 have h:=run_makeSlice (P:=Tryz.prog) w 33 3 i _ TN.sl hi hz0 .i64 .i64 n n (by omega) (by omega) (by rw[hz1,Int.toNat_natCast];omega) (by rw[hz2];omega) (by omega)
 rw[hz1] at h
 exact h
theorem q7n (n:Nat)(hn:n≤1000000)(w:World):NRow (litI n w) w.heap.size n n (List.replicate n 0):=by
 have hm:(madeCells #[.int .i64 0] (n*1)).toList=(List.replicate n (0:Int)).map cv:=qnn n
 have hl:=congrArg List.length hm
 rw[Array.length_toList,List.length_map,List.length_replicate] at hl
 refine⟨by rw[List.length_map,List.length_replicate,Nat.mul_one],.inr ⟨w.heap.size,n,_,rfl,Nat.zero_le _,heap_alloc_new w _,Nat.le_refl _,by unfold maxLen;omega,by rw[hl,Nat.mul_one],?_⟩⟩
 rw[hm,List.take_of_length_le (by rw[List.length_map,List.length_replicate,Nat.mul_one];exact Nat.le_refl _)]
theorem q4y (n base:Nat)(w:World)(h:base≤w.heap.size):Below base w (litI n w):=(Below.refl _ _).alloc h _
theorem q1e (n:Nat)(w:World):(litI n w).heap.size=w.heap.size+1:=by simp[litI]
section
attribute [local go_sem ↓] qgj
theorem q5e (n:Nat)(h1:32≤n)(h2:n≤2048)(w:World) :
  Calls Tryz.prog 102 #[.int .i64 (n:Int)] w fun e w'=>∃p,e=.returned (.tuple #[.pointer (some ⟨p,0,none⟩),.int .i64 0])∧RC w' p (fun k=>w.heap.size≤k) (Ct.zero n)∧Below w.heap.size w w':=by
 have e1:¬(n:Int)<32:=by omega
 have e2:¬(2048:Int)<(n:Int):=by omega
 have hn:n≤1000000:=by omega
 have q1:=qb7 n hn w.drew
 have q2:=qb7 n hn (litI n w.drew)
 rw[q1e] at q2
 have z0:w.drew.heap.size=w.heap.size:=rfl
 rw[z0] at q1 q2
 go_enter Tryz.func102,Tryz.ntmps102
 go_wp2_with fail
 go_region
 all_goals (
  have r2:NRow (litI n (litI n w.drew)) (w.heap.size+1) n n (List.replicate n 0):=by
   have:=q7n n hn (litI n w.drew)
   rw[q1e,z0] at this
   exact this
  have r1:NRow (litI n (litI n w.drew)) w.heap.size n n (List.replicate n 0):=by
   have h:=q7n n hn w.drew
   rw[z0] at h
   exact h.keep (heap_alloc_old (litI n w.drew) _ (by rw[q1e,z0];omega))
  have bW:Below w.heap.size w (litI n (litI n w.drew)):=((Below.refl _ _).drew.trans (q4y n _ _ (Nat.le_refl _))).trans (q4y n _ _ (by rw[q1e,z0];omega))
  have zW:(litI n (litI n w.drew)).heap.size=w.heap.size+2:=by rw[q1e,q1e,z0]
  clear q1 q2
  generalize litI n (litI n w.drew)=W at r1 r2 bW zW ⊢
  go_wp2_with fail
  go_ret2
  rw[zW]
  refine⟨w.heap.size+2,rfl,?_,bW.alloc bW.size _⟩
  have hm:=(Ct.zero_n n).symm
  first
   |exact⟨w.heap.size,n,w.heap.size+1,n,_,by rw[Ct.zero_n,←zW];exact heap_alloc_new W _,by rw[Ct.zero_n];exact r1.keep (heap_alloc_old W _ r1.lt),by rw[Ct.zero_n];exact r2.keep (heap_alloc_old W _ r2.lt),⟨by omega,by omega,by omega⟩,⟨by dsimp only;omega,by dsimp only;omega,by dsimp only;omega⟩,Ct.zero_ok h1 h2⟩
   |exact⟨w.heap.size+1,n,w.heap.size,n,_,by rw[Ct.zero_n,←zW];exact heap_alloc_new W _,by rw[Ct.zero_n];exact r2.keep (heap_alloc_old W _ r2.lt),by rw[Ct.zero_n];exact r1.keep (heap_alloc_old W _ r1.lt),⟨by omega,by omega,by omega⟩,⟨by dsimp only;omega,by dsimp only;omega,by dsimp only;omega⟩,Ct.zero_ok h1 h2⟩
   |fail)
end
def Ct.bodyTo (C:Ct)(m:Int):Nat→List UInt8
 |0=>[]
 |k+1=>C.bodyTo m k++dig (C.get (m+(k:Int))) 2
theorem Ct.bodyTo_len (C:Ct)(m:Int)(k:Nat):(C.bodyTo m k).length=2*k:=by
 induction k with
 |zero=>rfl
 |succ k ih=>show (C.bodyTo m k++dig _ 2).length=_;rw[List.length_append,ih,q0b];omega
def Ct.body (C:Ct)(i:Int):List UInt8:=if 0≤i∧i<(areaN C.n:Int) then C.bodyTo (i*118) 118 else []
theorem qi7 (A:Option Addr)(k c:Nat)(l:List UInt8)(x:Int)(w:World)(h:Sl w A k c l)(hk:k≤100000) :
  Calls Tryz.prog 124 #[.slice A k c,.int .i64 x,.int .i64 2] w fun e w'=>∃A' c',e=.returned (.slice A' (k+2) c')∧Own w' w.heap.size 5 A' (k+2) c' (l++dig x 2)∧Below w.heap.size w w':=by
 have h3:=q1f A k c l x 2 w h (by omega)
 rw[show putS l x 2=l++dig x 2 from if_pos ⟨by omega,by omega⟩] at h3
 refine h3.mono ?_
 rintro e w' ⟨A',n',c',rfl,own,hb⟩
 have h4:=own.len
 rw[List.length_append,q0b,h.len] at h4
 have:n'=k+2:=by omega
 subst this
 exact⟨A',c',rfl,own,hb⟩
theorem qcs {w:World}{p:Nat}{S:Nat→Prop}{C:Ct}(H:RC w p S C)(i:Int) :
  Calls Tryz.prog 128 #[.pointer (some ⟨p,0,none⟩),.int .i64 i] w fun e w'=>∃A n c,e=.returned (.slice A n c)∧Sl w' A n c (C.body i)∧Below w.heap.size w w':=by
 obtain⟨many,hm⟩:∃m,areaN C.n=m:=⟨_,rfl⟩
 have hok:=H.ok.1
 have hm2:many≤1000:=by rw[←hm];unfold areaN;omega
 obtain⟨g,cg,b,cb,c0,c1,k1,k2,hnow,hdone,hput⟩:=H.open_
 clear hnow hdone hput c1
 have Hm:=Lib.hid hm
 go_enter Tryz.func128,Tryz.ntmps128
 go_wp2_with fail
 refine (q1g (C.n:Int) C.n rfl (by omega) many Hm.out w).mono ?_
 rintro e w1 ⟨rfl,rfl⟩
 clear hm
 by_cases hi:0≤i∧i<(many:Int)
 ·have hbd:=Lib.hid (show C.body i=C.bodyTo (i*118) 118 by unfold Ct.body;rw[Hm.out,if_pos hi])
  obtain⟨q,rfl⟩:=Int.eq_ofNat_of_zero_le hi.1
  have e1:¬(q:Int)<0:=by omega
  have e2:¬(many:Int)≤(q:Int):=by omega
  have hq:q<many:=by omega
  have d1:decide ((q:Int)<0)=false:=by simp
  have d2:decide ((many:Int)≤(q:Int))=false:=by simp;omega
  have d3:decide (many≤q)=false:=by simp;omega
  go_wp2_with fail
  go_loopw [7,8] (fun b k wr=>∃(j:Nat) (A':Option Addr) (c':Nat),j≤118∧k=.int .i64 (j:Int)∧b=.slice A' (2*j) c'∧Own wr w.heap.size 5 A' (2*j) c' (C.bodyTo ((q:Int)*118) j)∧Below w.heap.size w wr) (fun _ k _=>118-(intOf k).toNat)
  case atStart=>exact⟨0,_,_,by omega,rfl,rfl,q11 w 5,blA⟩
  case round=>
   obtain⟨j,A',c',hj,rfl,rfl,own,hB⟩:=hrel
   by_cases hlt:j<118
   ·have Hr:=H.below hB
    have e3:(j:Int)<118:=by omega
    obtain⟨x,hx⟩:∃x,C.get ((q:Int)*118+(j:Int))=x:=⟨_,rfl⟩
    have Hnext:=Lib.hid (show C.bodyTo ((q:Int)*118) (j+1)=C.bodyTo ((q:Int)*118) j++dig x 2 by rw[←hx];rfl)
    have Hx:=Lib.hid hx
    clear hx c0
    go_wp2_with fail
    refine (q0u Hr _ x Hx.out).mono ?_
    rintro e w3 ⟨rfl,rfl⟩
    go_wp2_with fail
    refine (qi7 A' (2*j) c' _ x wr own.sl (by omega)).mono ?_
    rintro e w4 ⟨A4,c4,rfl,own4,hb4⟩
    rw[←Hnext.out] at own4
    go_wp2
    exact⟨⟨j+1,A4,c4,by omega,by go_num,rfl,own4.less hB.size,hB.trans (hb4.mono hB.size)⟩,by simp[intOf];omega⟩
   ·have hj2:j=118:=by omega
    subst hj2
    have Hown:=own.sl
    go_wp2
    go_ret
    rw[hbd.out]
    exact⟨_,_,_,rfl,Hown,hB⟩
 ·have hbd:=Lib.hid (show C.body i=[] by unfold Ct.body;rw[Hm.out,if_neg hi])
  by_cases h0:i<0
  ·go_wp2
   go_ret
   rw[hbd.out]
   exact⟨_,_,_,rfl,q0k _,Below.refl _ _⟩
  ·have e2:(many:Int)≤i:=by omega
   have e1:¬i<0:=h0
   go_wp2
   go_ret
   rw[hbd.out]
   exact⟨_,_,_,rfl,q0k _,Below.refl _ _⟩
def CCo (w:World)(p o:Nat)(S:Nat→Prop)(C:Ct):Prop:=∃(a ca b cb:Nat) (t:TypeId) (cur:Array Value),w.heap[p]?=some (.cells cur t (0,0))∧(cur[o]?=some (.slice (some ⟨a,0,none⟩) C.n ca)∧cur[o+1]?=some (.slice (some ⟨b,0,none⟩) C.n cb)∧cur[o+2]?=some (.int .i64 (areaN C.n:Int))∧cur[o+3]?=some (.int .i64 (C.first:Int)))∧NRow w a C.n ca C.now∧NRow w b C.n cb C.done∧(a≠b∧p≠a∧p≠b)∧(S a∧S b)∧C.ok
theorem q2e {w:World}{p k:Nat}{cur:Array Value}{t:TypeId}{v:Value}(h:w.heap[p]?=some (.cells cur t (0,0)))(hk:cur[k]?=some v):w.cell? ⟨p,k,none⟩=some v:=by rw[cell_of_row _ _ _ _ _ _ h];exact hk
theorem CCo.ok {w:World}{p o:Nat}{S:Nat→Prop}{C:Ct}(h:CCo w p o S C):C.ok:=by
 obtain⟨_,_,_,_,_,_,_,_,_,_,_,_,h⟩:=h
 exact h
theorem CCo.lt {w:World}{p o:Nat}{S:Nat→Prop}{C:Ct}(h:CCo w p o S C):p<w.heap.size:=by
 obtain⟨_,_,_,_,_,_,h,_⟩:=h
 exact (Array.getElem?_eq_some_iff.1 h).1
theorem CCo.keep {w w':World}{p o:Nat}{S:Nat→Prop}{C:Ct}(h:CCo w p o S C)(hp:w'.heap[p]?=w.heap[p]?)(hk:∀k,k<w.heap.size→S k→w'.heap[k]?=w.heap[k]?):CCo w' p o S C:=by
 obtain⟨a,ca,b,cb,t,cur,h1,hc,h2,h3,h4,h5,h6⟩:=h
 exact⟨a,ca,b,cb,t,cur,hp.trans h1,hc,h2.keep (hk a h2.lt h5.1),h3.keep (hk b h3.lt h5.2),h4,h5,h6⟩
theorem CCo.mono {w:World}{p o:Nat}{S S':Nat→Prop}{C:Ct}(h:CCo w p o S C)(hs:∀k,S k→S' k):CCo w p o S' C:=by
 obtain⟨a,ca,b,cb,t,cur,h1,hc,h2,h3,h4,h5,h6⟩:=h
 exact⟨a,ca,b,cb,t,cur,h1,hc,h2,h3,h4,⟨hs _ h5.1,hs _ h5.2⟩,h6⟩
theorem CCo.below {w w':World}{p o:Nat}{S:Nat→Prop}{C:Ct}(h:CCo w p o S C)(hb:Below w.heap.size w w'):CCo w' p o S C:=h.keep (hb.block p h.lt) fun k hk _=>hb.block k hk
theorem CCo.shrink {w:World}{p o:Nat}{S:Nat→Prop}{C:Ct}(h:CCo w p o S C):CCo w p o (fun k=>S k∧k<w.heap.size) C:=by
 obtain⟨a,ca,b,cb,t,cur,h1,hc,h2,h3,h4,h5,h6⟩:=h
 exact⟨a,ca,b,cb,t,cur,h1,hc,h2,h3,h4,⟨⟨h5.1,h2.lt⟩,⟨h5.2,h3.lt⟩⟩,h6⟩
theorem CCo.around {w w':World}{p o p' o':Nat}{S:Nat→Prop}{C:Ct}{cur cur':Array Value}{t t':TypeId}(h:CCo w p o S C)(hp:w.heap[p]?=some (.cells cur t (0,0)))(hp':w'.heap[p']?=some (.cells cur' t' (0,0)))
  (hc:∀j,j<4→cur'[o'+j]?=cur[o+j]?) (hne:∀k,S k→p'≠k) (hk:∀k,k<w.heap.size→S k→w'.heap[k]?=w.heap[k]?):CCo w' p' o' S C:=by
 obtain⟨a,ca,b,cb,t,cur0,h1,hq,h2,h3,h4,h5,h6⟩:=h
 rw[hp] at h1
 injection h1 with h1
 injection h1 with h1 _ _
 subst h1
 exact⟨a,ca,b,cb,t',cur',hp',⟨(hc 0 (by omega)).trans hq.1,(hc 1 (by omega)).trans hq.2.1,(hc 2 (by omega)).trans hq.2.2.1,(hc 3 (by omega)).trans hq.2.2.2⟩,h2.keep (hk a h2.lt h5.1),h3.keep (hk b h3.lt h5.2),⟨h4.1,hne a h5.1,hne b h5.2⟩,h5,h6⟩
theorem CCo.open_ {w:World}{p o:Nat}{S:Nat→Prop}{C:Ct}(H:CCo w p o S C):∃g cg b cb:Nat,w.cell? ⟨p,o,none⟩=some (.slice (some ⟨g,0,none⟩) C.n cg)∧w.cell? ⟨p,o+1,none⟩=some (.slice (some ⟨b,0,none⟩) C.n cb)∧w.cell? ⟨p,o+2,none⟩=some (.int .i64 (areaN C.n:Int))∧w.cell? ⟨p,o+3,none⟩=some (.int .i64 (C.first:Int))∧
  (C.n≤cg∧cg≤9223372036854775807)∧(C.n≤cb∧cb≤9223372036854775807)∧(∀k,k<C.n→w.cell? ⟨g,k,none⟩=some (.int .i64 (nm C.now k))∧w.frozen? ⟨g,k,none⟩=false)∧(∀k,k<C.n→w.cell? ⟨b,k,none⟩=some (.int .i64 (nm C.done k)))∧
  (∀(k:Nat) (x:Int),k<C.n→0≤x→x≤65535→CCo (w.setCell ⟨g,k,none⟩ (.int .i64 x)) p o S (C.put k x)∧Turn S w (w.setCell ⟨g,k,none⟩ (.int .i64 x))∧(w.setCell ⟨g,k,none⟩ (.int .i64 x)).cell? ⟨p,o,none⟩=some (.slice (some ⟨g,0,none⟩) C.n cg)∧(w.setCell ⟨g,k,none⟩ (.int .i64 x)).cell? ⟨g,k,none⟩=some (.int .i64 x)):=by
 obtain⟨g,cg,b,cb,t,cur,h1,⟨q0,q1,q2,q3⟩,h2,h3,h4,h5,h6⟩:=H
 have k1:=h2.cap
 have k2:=h3.cap
 unfold maxLen at k1 k2
 refine⟨g,cg,b,cb,q2e h1 q0,q2e h1 q1,q2e h1 q2,q2e h1 q3,⟨k1.1,by omega⟩,⟨k2.1,by omega⟩,fun k hk=>h2.at_ hk,fun k hk=>(h3.at_ hk).1,fun k x hk hx0 hx1=>?_⟩
 have e:∀j,j≠g→(w.setCell ⟨g,k,none⟩ (.int .i64 x)).heap[j]?=w.heap[j]?:=fun j hj=>Below.heap_setCell _ _ _ _ (by show j≠g;exact hj)
 have hp:=(e p h4.2.1).trans h1
 have hI:=h2.set_ k x
 have hf:(C.put k x).first=C.first:=by unfold Ct.first;rw[C.put_n]
 refine⟨⟨g,cg,b,cb,t,cur,hp,?_,?_,?_,h4,h5,C.put_ok h6 k x hx0 hx1⟩,q0e (a:=⟨g,k,none⟩) _ h5.1,q2e hp q0,?_⟩
 ·rw[C.put_n,hf];exact⟨q0,q1,q2,q3⟩
 ·rw[C.put_n];exact hI
 ·rw[C.put_n];exact h3.keep (e b (Ne.symm h4.1))
 ·have:=(hI.at_ hk).1
  rw[q3l _ _ _ (by rw[h2.len];exact hk)] at this
  exact this
theorem q2h {w:World}{p o:Nat}{S:Nat→Prop}{C:Ct}(H:CCo w p o S C)(a x:Int)(hx:C.get a=x) :
  Calls Tryz.prog 96 #[.pointer (some ⟨p,o,none⟩),.int .i64 a] w fun e w'=>e=.returned (.int .i64 x)∧w=w':=by
 obtain⟨g,cg,b,cb,c0,c1,c2,c3,k1,k2,hnow,hdone,hput⟩:=H.open_
 have Hnow:=Lib.hid hnow
 clear hnow hdone hput c1 c2 c3
 by_cases h0:0≤a
 ·obtain⟨k,rfl⟩:=Int.eq_ofNat_of_zero_le h0
  by_cases hk:k<C.n
  ·have hgt:=Lib.hid (show x=nm C.now k by rw[←hx];unfold Ct.get;rw[if_pos (by omega)];rfl)
   obtain⟨hc,_⟩:=Hnow.out k hk
   have e1:¬(k:Int)<0:=by omega
   have e2:¬(C.n:Int)≤(k:Int):=by omega
   have e3:(k:Int)<(C.n:Int):=by omega
   go_enter Tryz.func96,Tryz.ntmps96
   go_wp2
   go_ret
   exact⟨by rw[hgt.out];rfl,rfl⟩
  ·have hgt:=Lib.hid (show x=0 by rw[←hx];unfold Ct.get;rw[if_neg (by omega)])
   have e1:¬(k:Int)<0:=by omega
   have e2:(C.n:Int)≤(k:Int):=by omega
   go_enter Tryz.func96,Tryz.ntmps96
   go_wp2
   go_ret
   exact⟨by rw[hgt.out];rfl,rfl⟩
 ·have hgt:=Lib.hid (show x=0 by rw[←hx];unfold Ct.get;rw[if_neg (by omega)])
  have e1:a<0:=by omega
  go_enter Tryz.func96,Tryz.ntmps96
  go_wp2
  go_ret
  exact⟨by rw[hgt.out];rfl,rfl⟩
def Ct.counted (C:Ct)(a:Nat):Bool:=decide (C.first≤a∧a<C.n)
theorem q26 {w:World}{p o:Nat}{S:Nat→Prop}{C:Ct}(H:CCo w p o S C)(a:Nat)(r:Bool)(hr:C.counted a=r) :
  Calls Tryz.prog 188 #[.pointer (some ⟨p,o,none⟩),.int .i64 (a:Int)] w fun e w'=>e=.returned (.bool r)∧w=w':=by
 obtain⟨g,cg,b,cb,c0,c1,c2,c3,k1,k2,hnow,hdone,hput⟩:=H.open_
 clear hnow hdone hput c1 c2
 obtain⟨f,hf⟩:∃f,C.first=f:=⟨_,rfl⟩
 have hr2:=Lib.hid (show r=decide (f≤a∧a<C.n) by rw[←hr,←hf];rfl)
 rw[hf] at c3
 clear hf hr
 by_cases h1:f≤a
 ·by_cases h2:a<C.n
  ·have e0:=Lib.hid (show r=true by rw[hr2.out];exact decide_eq_true ⟨h1,h2⟩)
   have e1:(f:Int)≤(a:Int):=by omega
   have e2:(a:Int)<(C.n:Int):=by omega
   go_enter Tryz.func188,Tryz.ntmps188
   go_wp2
   go_ret
   exact⟨by rw[e0.out];rfl,rfl⟩
  ·have e0:=Lib.hid (show r=false by rw[hr2.out];exact decide_eq_false fun h=>h2 h.2)
   have e1:(f:Int)≤(a:Int):=by omega
   have e2:¬(a:Int)<(C.n:Int):=by omega
   go_enter Tryz.func188,Tryz.ntmps188
   go_wp2
   go_ret
   exact⟨by rw[e0.out];rfl,rfl⟩
 ·have e0:=Lib.hid (show r=false by rw[hr2.out];exact decide_eq_false fun h=>h1 h.1)
  have e1:¬(f:Int)≤(a:Int):=by omega
  go_enter Tryz.func188,Tryz.ntmps188
  go_wp2
  go_ret
  exact⟨by rw[e0.out];rfl,rfl⟩
theorem qct {w:World}{p o:Nat}{S:Nat→Prop}{C:Ct}(H:CCo w p o S C)(k:Nat)(hk:k<C.n)(r:Bool)(hr:C.may k=r) :
  Calls Tryz.prog 146 #[.pointer (some ⟨p,o,none⟩),.int .i64 (k:Int)] w fun e w'=>e=.returned (.bool r)∧w=w':=by
 obtain⟨g,cg,b,cb,c0,c1,c2,c3,k1,k2,hnow,hdone,hput⟩:=H.open_
 obtain⟨hc,_⟩:=hnow k hk
 have hd:=hdone k hk
 clear hnow hdone hput c2 c3
 obtain⟨x,hx⟩:∃x,nm C.now k=x:=⟨_,rfl⟩
 obtain⟨y,hy⟩:∃y,nm C.done k=y:=⟨_,rfl⟩
 have hm:=Lib.hid (show r=(decide (C.first≤k)&&decide (x=0∧y=0)) by rw[←hr,←hx,←hy];rfl)
 rw[hx] at hc
 rw[hy] at hd
 clear hx hy hr
 have e3:(k:Int)<(C.n:Int):=by omega
 have e4:¬(C.n:Int)≤(k:Int):=by omega
 by_cases h1:C.first≤k
 ·have hcn:=Lib.hid (show C.counted k=true from decide_eq_true ⟨h1,hk⟩)
  have hm:=Lib.hid (show r=decide (x=0∧y=0) by rw[hm.out,decide_eq_true h1,Bool.true_and])
  clear h1
  by_cases hx0:x=0
  ·have hm:=Lib.hid (show r=decide (y=0) by rw[hm.out];simp[hx0])
   subst hx0
   go_enter Tryz.func146,Tryz.ntmps146
   go_wp2_with fail
   refine (q26 H k true hcn.out).mono ?_
   rintro e w1 ⟨rfl,rfl⟩
   go_wp2
   go_ret
   exact⟨by rw[hm.out];first|rfl|(refine congrArg (fun x=>Ending.returned (Value.bool x)) ?_;rw[Bool.eq_iff_iff];simp),rfl⟩
  ·have hm:=Lib.hid (show r=false by rw[hm.out];exact decide_eq_false fun h=>hx0 h.1)
   have hb:(x==0)=false:=by simpa using hx0
   go_enter Tryz.func146,Tryz.ntmps146
   go_wp2_with fail
   refine (q26 H k true hcn.out).mono ?_
   rintro e w1 ⟨rfl,rfl⟩
   go_wp2
   go_ret
   exact⟨by rw[hm.out];rfl,rfl⟩
 ·have hcn:=Lib.hid (show C.counted k=false from decide_eq_false fun h=>h1 h.1)
  have hm:=Lib.hid (show r=false by rw[hm.out,decide_eq_false h1,Bool.false_and])
  clear h1
  go_enter Tryz.func146,Tryz.ntmps146
  go_wp2_with fail
  refine (q26 H k false hcn.out).mono ?_
  rintro e w1 ⟨rfl,rfl⟩
  go_wp2
  go_ret
  exact⟨by rw[hm.out];rfl,rfl⟩
theorem NRow.whole {w:World}{g n c:Nat}{l:List Int}(h:NRow w g n c l):∃cur:Array Value,w.heap[g]?=some (.cells cur 3 (0,0))∧cur.size=c∧cur.toList.take n=l.map cv∧n≤c∧c≤maxLen:=by
 rcases h.2 with⟨hv,_⟩|⟨g',cap,cur,hv,hb,hg,h1,h2,h3,h4⟩
 ·injection hv with e1;cases e1
 ·injection hv with e1 e2 e3
  injection e1 with e1
  injection e1 with e1
  subst e1;subst e3
  rw[Nat.mul_one] at h3 h4
  exact⟨cur,hg,h3,h4,h1,h2⟩
theorem NRow.of_whole {w:World}{g n c:Nat}{l:List Int}(cur:Array Value)(hg:w.heap[g]?=some (.cells cur 3 (0,0)))(h3:cur.size=c)(h4:cur.toList.take n=l.map cv)(hl:l.length=n)(h1:n≤c)(h2:c≤maxLen):NRow w g n c l:=
 ⟨by rw[List.length_map,hl,Nat.mul_one],.inr ⟨g,c,cur,rfl,Nat.zero_le _,hg,h1,h2,by rw[h3,Nat.mul_one],by rw[Nat.mul_one];exact h4⟩⟩
theorem qev {w:World}{ops:Array Oper}{o:Oper}{a:Act}{K:Act→World→Prop}{Q:Exit→Act→World→Prop}{E:Prop}(hgd:o.guard=none)(d s:Operand)
  (ho:o.op=.call { callee:=.builtin .copy,args:=#[d,s],argTypes:=#[33,33] }) (g n c:Nat) (l:List Int) (hr:NRow w g n c l) (hd:a.eval d=.slice (some ⟨g,0,none⟩) n c)
  (g2 c2:Nat) (l2:List Int) (hr2:NRow w g2 n c2 l2) (hs:a.eval s=.slice (some ⟨g2,0,none⟩) n c2)
  (hK:∀w',NRow w' g n c l2→(∀k,k≠g→w'.heap[k]?=w.heap[k]?)→(∀S:Nat→Prop,S g→Turn S w w')→K (a.put o.dst (goInt n)) w'):if Region.wanted o (yielded ops a.tmps)=true then Oper.wp Tryz.prog o a w K Q else E:=by
 rw[if_pos (by simp[Region.wanted,hgd])]
 obtain⟨i,hi,hz0,hz1,hz2⟩:=info_parts TN.info
 obtain⟨cur,hg,h3,h4,h1,h2⟩:=hr.whole
 have hl2:=hr2.len
 have hrun:=run_copy_row (P:=Tryz.prog) w 33 33 o.type 3 g 0 n c ⟨g2,0,none⟩ n c2 cur 3 (l2.map cv) TN.sl (by rw[hi];simp[hz1]) hg (by rw[List.length_map,hl2];exact (Nat.min_self n).symm) hr2.cells (by rw[List.length_map,hl2,h3];omega) (qso _)
 rw[List.length_map,hl2] at hrun
 unfold Oper.wp
 simp[execOp,ho,resolve,invoke,builtin,hd,hs,hrun,Result.andThen]
 have hh:(w.setRow g (l2.map cv++cur.toList.drop n).toArray).heap[g]?=some (.cells (l2.map cv++cur.toList.drop n).toArray 3 (0,0)):=setRow_heap w g _ _ 3 _ hg
 have e:∀k,k≠g→(w.setRow g (l2.map cv++cur.toList.drop n).toArray).heap[k]?=w.heap[k]?:=fun k hk=>setRow_other w g k _ hk
 have key:=hK (w.setRow g (l2.map cv++cur.toList.drop n).toArray) (NRow.of_whole _ hh (by rw[List.size_toArray,List.length_append,List.length_map,List.length_drop,hl2,Array.length_toList,h3];omega) (by rw[List.take_left' (by rw[List.length_map,hl2])]) hl2 h1 h2) e (fun S hS=>⟨rfl,rfl,rfl,by simp[World.setRow],fun k _ hn=>e k fun h=>hn (h▸hS)⟩)
 exact key
theorem q8g {w:World}{p o:Nat}{S:Nat→Prop}{C:Ct}(H:CCo w p o S C) :
  Calls Tryz.prog 66 #[.pointer (some ⟨p,o,none⟩)] w fun e w'=>e=.returned (.tuple #[])∧CCo w' p o S C.commit∧Turn S w w':=by
 obtain⟨g,cg,b,cb,t,cur,h1,⟨q0,q1,q2,q3⟩,h2,h3,h4,h5,h6⟩:=H
 have c0:w.drew.cell? ⟨p,o,none⟩=some (.slice (some ⟨g,0,none⟩) C.n cg):=q2e (w:=w.drew) h1 q0
 have c1:w.drew.cell? ⟨p,o+1,none⟩=some (.slice (some ⟨b,0,none⟩) C.n cb):=q2e (w:=w.drew) h1 q1
 have h2':NRow w.drew g C.n cg C.now:=h2
 have h3':NRow w.drew b C.n cb C.done:=h3
 go_enter Tryz.func66,Tryz.ntmps66
 go_wp2_with fail
 go_region_held3 (fun w'=>w'.cell? ⟨p,o,none⟩=some (.slice (some ⟨g,0,none⟩) C.n cg)∧w'.cell? ⟨p,o+1,none⟩=some (.slice (some ⟨b,0,none⟩) C.n cb))
  (first|assumption|exact⟨c0,c1⟩|exact d01)
  (first
   |(refine qev rfl (.tmp 5) (.tmp 9) rfl b C.n cb C.done h3' rfl g cg C.now h2' rfl ?_;intro w5 r5 e5 T5;have d01:w5.cell? ⟨p,o,none⟩=some (.slice (some ⟨g,0,none⟩) C.n cg)∧w5.cell? ⟨p,o+1,none⟩=some (.slice (some ⟨b,0,none⟩) C.n cb):=⟨(World.cell?_of_block (a:=⟨p,o,none⟩) (e5 p h4.2.2)).trans c0,(World.cell?_of_block (a:=⟨p,o+1,none⟩) (e5 p h4.2.2)).trans c1⟩)
   |fail)
 all_goals (
  go_end0
  refine⟨rfl,⟨g,cg,b,cb,t,cur,(e5 p h4.2.2).trans h1,⟨q0,q1,q2,q3⟩,h2.keep (e5 g h4.1),r5,h4,h5,Ct.commit_ok h6⟩,?_⟩
  have T:=T5 S h5.2
  exact (Turn.refl S w).drew.then T)
theorem cputin (x:Int)(w:World) :
  Calls Tryz.prog 174 #[.slice none 0 0,.int .i64 x,.int .i64 2] w fun e w'=>∃A' c',e=.returned (.slice A' 2 c')∧Sl w' A' 2 c' (dig x 2)∧Below w.heap.size w w':=by
 have h3:=q8i none 0 0 [] x 2 w (q0k w) (by omega)
 rw[show putS [] x 2=dig x 2 from rfl] at h3
 refine h3.mono ?_
 rintro e w' ⟨A',n',c',rfl,own,hb⟩
 have h4:=own.len
 rw[q0b] at h4
 subst h4
 exact⟨A',c',rfl,own.sl,hb⟩
theorem qcu {w:World}{p o:Nat}{S:Nat→Prop}{C:Ct}(H:CCo w p o S C)(i:Int) :
  Calls Tryz.prog 120 #[.pointer (some ⟨p,o,none⟩),.int .i64 i] w fun e w'=>∃A n c,e=.returned (.slice A n c)∧Sl w' A n c (C.body i)∧Below w.heap.size w w'∧∀ad,A=some ad→w.heap.size≤ad.block:=by
 obtain⟨many,hm⟩:∃m,areaN C.n=m:=⟨_,rfl⟩
 have hok:=H.ok.1
 have hm2:many≤1000:=by rw[←hm];unfold areaN;omega
 obtain⟨g,cg,b,cb,c0,c1,c2,c3,k1,k2,hnow,hdone,hput⟩:=H.open_
 clear hnow hdone hput c1 c0 c3 k1 k2
 rw[hm] at c2
 have Hm:=Lib.hid hm
 clear hm
 by_cases hi:0≤i∧i<(many:Int)
 ·have hbd:=Lib.hid (show C.body i=C.bodyTo (i*118) 118 by unfold Ct.body;rw[Hm.out,if_pos hi])
  obtain⟨q,rfl⟩:=Int.eq_ofNat_of_zero_le hi.1
  have e1:¬(q:Int)<0:=by omega
  have e2:¬(many:Int)≤(q:Int):=by omega
  have hq:q<many:=by omega
  have d1:decide ((q:Int)<0)=false:=by simp
  have d2:decide ((many:Int)≤(q:Int))=false:=by simp;omega
  have d3:decide (many≤q)=false:=by simp;omega
  go_enter Tryz.func120,Tryz.ntmps120
  go_wp2_with (first
   |(at_make;refine qc9 _ T22 rfl _ _ rfl _ _ 236 rfl rfl (by omega) ?_)
   |fail)
  intro w1 own0 hb0
  go_wp2_with fail
  go_loopw [5,6,18] (fun b _ k wr=>∃(j:Nat) (A':Option Addr) (c':Nat),j≤118∧k=.int .i64 (j:Int)∧b=.slice A' (2*j) c'∧Own wr w.heap.size 5 A' (2*j) c' (C.bodyTo ((q:Int)*118) j)∧Below w.heap.size w wr) (fun _ _ k _=>118-(intOf k).toNat)
  case atStart=>exact⟨0,_,_,by omega,rfl,rfl,own0,hb0⟩
  case round=>
   clear own0 hb0
   obtain⟨j,A',c',hj,rfl,rfl,own,hB⟩:=hrel
   by_cases hlt:j<118
   ·have Hr:=H.below hB
    have e3:(j:Int)<118:=by omega
    obtain⟨x,hx⟩:∃x,C.get ((q:Int)*118+(j:Int))=x:=⟨_,rfl⟩
    have Hnext:=Lib.hid (show C.bodyTo ((q:Int)*118) (j+1)=C.bodyTo ((q:Int)*118) j++dig x 2 by rw[←hx];rfl)
    have Hx:=Lib.hid hx
    clear hx c2
    go_wp2_with fail
    refine (q2h Hr _ x Hx.out).mono ?_
    rintro e w3 ⟨rfl,rfl⟩
    go_wp2_with fail
    refine (cputin x wr).mono ?_
    rintro e w4 ⟨A4,c4,rfl,sl4,hb4⟩
    have own4:=own.below hb4
    have hB4:=hB.trans (hb4.mono hB.size)
    go_wp2_with (at_builtin;refine q0x _ T22 rfl _ _ rfl w.heap.size A' (2*j) c' _ rfl own4 A4 2 c4 _ rfl sl4 (by omega) hB4.size ?_)
    intro A5 c5 w5 own5 hb5
    rw[←Hnext.out] at own5
    go_wp2
    exact⟨⟨j+1,A5,c5,by omega,by go_num,rfl,own5,hB4.trans hb5⟩,by simp[intOf];omega⟩
   ·have hj2:j=118:=by omega
    subst hj2
    have Hown:=own.sl
    have Hblk:=fun ad e=>(own.block ad e).1
    go_wp2
    go_ret
    rw[hbd.out]
    exact⟨_,_,_,rfl,Hown,hB,Hblk⟩
 ·have hbd:=Lib.hid (show C.body i=[] by unfold Ct.body;rw[Hm.out,if_neg hi])
  by_cases h0:i<0
  ·go_enter Tryz.func120,Tryz.ntmps120
   go_wp2
   go_ret
   rw[hbd.out]
   exact⟨_,_,_,rfl,q0k _,Below.refl _ _,fun ad e=>by cases e⟩
  ·have e2:(many:Int)≤i:=by omega
   have e1:¬i<0:=h0
   go_enter Tryz.func120,Tryz.ntmps120
   go_wp2
   go_ret
   rw[hbd.out]
   exact⟨_,_,_,rfl,q0k _,Below.refl _ _,fun ad e=>by cases e⟩
theorem qny {w:World}{p o:Nat}{S:Nat→Prop}{C:Ct}(H:CCo w p o S C)(a:Int) :
  Calls Tryz.prog 107 #[.pointer (some ⟨p,o,none⟩),.int .i64 a] w fun e w'=>e=.returned (.int .i64 (C.refE a))∧CCo w' p o S (C.ref a)∧Turn S w w':=by
 obtain⟨x,hx⟩:∃x,C.get a=x:=⟨_,rfl⟩
 have hb:=C.get_bounds H.ok a
 rw[hx] at hb
 by_cases h0:x=0
 ·have hE:C.refE a=1:=by unfold Ct.refE;rw[hx,if_pos h0]
  have hC:C.ref a=C:=by unfold Ct.ref;rw[hE,if_neg (by decide)]
  rw[hE,hC]
  subst h0
  go_enter Tryz.func107,Tryz.ntmps107
  go_wp2_with fail
  refine (q2h H a 0 hx).mono ?_
  rintro e w1 ⟨rfl,rfl⟩
  go_wp2
  go_ret
  exact⟨rfl,H,Turn.refl _ _⟩
 ·by_cases h1:x=65535
  ·have hE:C.refE a=7:=by unfold Ct.refE;rw[hx,if_neg h0,if_pos h1]
   have hC:C.ref a=C:=by unfold Ct.ref;rw[hE,if_neg (by decide)]
   rw[hE,hC]
   subst h1
   go_enter Tryz.func107,Tryz.ntmps107
   go_wp2_with fail
   refine (q2h H a 65535 hx).mono ?_
   rintro e w1 ⟨rfl,rfl⟩
   go_wp2
   go_ret
   exact⟨rfl,H,Turn.refl _ _⟩
  ·have hE:C.refE a=0:=by unfold Ct.refE;rw[hx,if_neg h0,if_neg h1]
   have hC:C.ref a=C.put a.toNat (x+1):=by unfold Ct.ref;rw[hE,if_pos rfl,hx]
   have hE':=Lib.hid hE
   have hC':=Lib.hid hC
   obtain⟨i0,i1,i2⟩:=Ct.get_in (C:=C) (a:=a) (by rw[hx];exact h0)
   obtain⟨k,rfl⟩:=Int.eq_ofNat_of_zero_le i0
   rw[Int.toNat_natCast] at i2
   rw[hx] at i2
   obtain⟨g,cg,b,cb,c0,c1,c2,c3,k1,k2,hnow,hdone,hput⟩:=H.open_
   obtain⟨hc,hfz⟩:=hnow k (by omega)
   rw[←i2] at hc
   obtain⟨H2,T2,d0,d1⟩:=hput k (x+1) (by omega) (by omega) (by omega)
   have Hx:=Lib.hid hx
   have j1:¬(C.n:Int)≤(k:Int):=by omega
   clear hE hC i2 hnow hdone hput
   go_enter Tryz.func107,Tryz.ntmps107
   go_wp2_with fail
   refine (q2h H k x Hx.out).mono ?_
   rintro e w1 ⟨rfl,rfl⟩
   go_wp2
   go_ret
   rw[hE'.out,hC'.out]
   exact⟨rfl,H2,T2⟩
theorem qi8 {w:World}{p o:Nat}{S:Nat→Prop}{C:Ct}(H:CCo w p o S C)(a:Int) :
  Calls Tryz.prog 101 #[.pointer (some ⟨p,o,none⟩),.int .i64 a] w fun e w'=>e=.returned (.tuple #[.int .i64 (C.unrefV a),.int .i64 (C.unrefE a)])∧CCo w' p o S (C.unref a)∧Turn S w w':=by
 obtain⟨x,hx⟩:∃x,C.get a=x:=⟨_,rfl⟩
 have hb:=C.get_bounds H.ok a
 rw[hx] at hb
 by_cases h0:x=0
 ·have hE:C.unrefE a=1∧C.unrefV a=0∧C.unref a=C:=by unfold Ct.unrefE Ct.unrefV Ct.unref;rw[hx,if_pos h0,if_pos h0,if_pos h0];exact⟨rfl,rfl,rfl⟩
  rw[hE.1,hE.2.1,hE.2.2]
  subst h0
  go_enter Tryz.func101,Tryz.ntmps101
  go_wp2_with fail
  refine (q2h H a 0 hx).mono ?_
  rintro e w1 ⟨rfl,rfl⟩
  go_wp2
  go_ret2
  exact⟨rfl,H,Turn.refl _ _⟩
 ·have hE:C.unrefE a=0∧C.unrefV a=x-1∧C.unref a=C.put a.toNat (x-1):=by unfold Ct.unrefE Ct.unrefV Ct.unref;rw[hx,if_neg h0,if_neg h0,if_neg h0];exact⟨rfl,rfl,rfl⟩
  have hE':=Lib.hid hE
  obtain⟨i0,i1,i2⟩:=Ct.get_in (C:=C) (a:=a) (by rw[hx];exact h0)
  obtain⟨k,rfl⟩:=Int.eq_ofNat_of_zero_le i0
  rw[Int.toNat_natCast] at i2
  rw[hx] at i2
  obtain⟨g,cg,b,cb,c0,c1,c2,c3,k1,k2,hnow,hdone,hput⟩:=H.open_
  obtain⟨hc,hfz⟩:=hnow k (by omega)
  rw[←i2] at hc
  obtain⟨H2,T2,d0,d1⟩:=hput k (x-1) (by omega) (by omega) (by omega)
  have Hx:=Lib.hid hx
  have j1:¬(C.n:Int)≤(k:Int):=by omega
  clear hE i2 hnow hdone hput
  go_enter Tryz.func101,Tryz.ntmps101
  go_wp2_with fail
  refine (q2h H k x Hx.out).mono ?_
  rintro e w1 ⟨rfl,rfl⟩
  go_wp2
  go_ret2
  rw[hE'.out.1,hE'.out.2.1,hE'.out.2.2]
  exact⟨rfl,H2,T2⟩
theorem qi9 {w:World}{p o:Nat}{S:Nat→Prop}{C:Ct}(H:CCo w p o S C)(a:Int)(r:Bool)(hr:C.fresh a=r) :
  Calls Tryz.prog 111 #[.pointer (some ⟨p,o,none⟩),.int .i64 a] w fun e w'=>e=.returned (.bool r)∧w=w':=by
 subst hr
 obtain⟨x,hx⟩:∃x,C.get a=x:=⟨_,rfl⟩
 by_cases h0:x=0
 ·have hE:C.fresh a=false:=by unfold Ct.fresh;rw[hx,if_pos h0]
  rw[hE]
  subst h0
  go_enter Tryz.func111,Tryz.ntmps111
  go_wp2_with fail
  refine (q2h H a 0 hx).mono ?_
  rintro e w1 ⟨rfl,rfl⟩
  go_wp2
  go_ret
  exact⟨rfl,rfl⟩
 ·have hE:=Lib.hid (show C.fresh a=decide (nm C.done a.toNat=0) by unfold Ct.fresh;rw[hx,if_neg h0])
  obtain⟨i0,i1,i2⟩:=Ct.get_in (C:=C) (a:=a) (by rw[hx];exact h0)
  obtain⟨k,rfl⟩:=Int.eq_ofNat_of_zero_le i0
  rw[Int.toNat_natCast] at hE
  obtain⟨g,cg,b,cb,c0,c1,c2,c3,k1,k2,hnow,hdone,hput⟩:=H.open_
  have hd:=hdone k (by omega)
  obtain⟨y,hy⟩:∃y,nm C.done k=y:=⟨_,rfl⟩
  rw[hy] at hd hE
  have Hx:=Lib.hid hx
  have j1:¬(C.n:Int)≤(k:Int):=by omega
  clear i2 hnow hdone hput hy hx
  go_enter Tryz.func111,Tryz.ntmps111
  go_wp2_with fail
  refine (q2h H k x Hx.out).mono ?_
  rintro e w1 ⟨rfl,rfl⟩
  go_wp2
  go_ret
  exact⟨by rw[hE.out];first|rfl|(refine congrArg (fun x=>Ending.returned (Value.bool x)) ?_;rw[Bool.eq_iff_iff];simp[h0]),rfl⟩
theorem q6o {w:World}{p o:Nat}{S:Nat→Prop}{C:Ct}(H:CCo w p o S C) :
  Calls Tryz.prog 89 #[.pointer (some ⟨p,o,none⟩)] w fun e w'=>e=.returned (.tuple #[.int .i64 C.allocV,.int .i64 C.allocE])∧CCo w' p o S C.alloc∧Turn S w w':=by
 have hok:=H.ok.1
 obtain⟨g,cg,b,cb,c0,c1,c2,c3,k1,k2,hnow,hdone,hput⟩:=H.open_
 have Hput:=Lib.hid hput
 have Hnow:=Lib.hid hnow
 clear hput hnow hdone c1 c2 c3 k2
 go_enter Tryz.func89,Tryz.ntmps89
 go_wp2_with fail
 go_loop [4,10] (fun _ i=>∃k:Nat,k≤C.n∧i=.int .i64 (k:Int)∧∀j,j<k→C.may j=false) (fun _ i=>C.n-(intOf i).toNat)
 case atStart=>exact⟨0,Nat.zero_le _,rfl,fun j hj=>absurd hj (Nat.not_lt_zero _)⟩
 case round=>
  obtain⟨k,hk,rfl,hall⟩:=hrel
  by_cases hlt:k<C.n
  ·obtain⟨hc,hfz⟩:=Hnow.out k hlt
   obtain⟨H2,T2,d0,d1⟩:=Hput.out k 1 hlt (by omega) (by omega)
   obtain⟨r,hr⟩:∃r,C.may k=r:=⟨_,rfl⟩
   have Hr:=Lib.hid hr
   have Hall:=Lib.hid hall
   have e3:(k:Int)<(C.n:Int):=by omega
   have e0:(0:Int)≤(k:Int):=by omega
   clear hr hall
   go_wp2_with fail
   refine (qct H k hlt r Hr.out).mono ?_
   rintro e w1 ⟨rfl,rfl⟩
   cases r with
   |true=>
    have hE:=Lib.hid (Ct.alloc_some (C:=C) (k:=k) (Ct.pick_some hlt Hr.out Hall.out))
    go_wp2
    go_ret2
    rw[hE.out.1,hE.out.2.1,hE.out.2.2]
    exact⟨rfl,H2,T2⟩
   |false=>
    go_wp2
    refine⟨⟨k+1,by omega,by go_num,fun j hj=>?_⟩,by simp[intOf];omega⟩
    by_cases hjk:j=k
    ·rw[hjk];exact Hr.out
    ·exact Hall.out j (by omega)
  ·have hkn:k=C.n:=by omega
   have e3:¬(k:Int)<(C.n:Int):=by omega
   have hE:=Lib.hid (Ct.alloc_none (Ct.pick_none (C:=C) (by rw[←hkn];exact hall)))
   clear hall hkn
   go_wp2
   go_ret2
   rw[hE.out.1,hE.out.2.1,hE.out.2.2]
   exact⟨rfl,H,Turn.refl _ _⟩
theorem qcv {w:World}{p o:Nat}{S:Nat→Prop}{C:Ct}(H:CCo w p o S C)(n:Nat)(hn:C.free=n) :
  Calls Tryz.prog 99 #[.pointer (some ⟨p,o,none⟩)] w fun e w'=>e=.returned (.int .i64 (n:Int))∧w=w':=by
 have hok:=H.ok.1
 obtain⟨g,cg,b,cb,c0,c1,c2,c3,k1,k2,hnow,hdone,_⟩:=H.open_
 have Hn:=Lib.hid hn
 clear hnow hdone hn c1 c2 c3 k2
 go_enter Tryz.func99,Tryz.ntmps99
 go_wp2_with fail
 go_loop [3,4,10] (fun z _ i=>∃k:Nat,k≤C.n∧i=.int .i64 (k:Int)∧z=.int .i64 (C.freeTo k:Int)) (fun _ _ i=>C.n-(intOf i).toNat)
 case atStart=>exact⟨0,Nat.zero_le _,rfl,rfl⟩
 case round=>
  obtain⟨k,hk,rfl,rfl⟩:=hrel
  have hle:=C.freeTo_le k
  by_cases hlt:k<C.n
  ·have hnx:=Lib.hid (C.freeTo_next k)
   obtain⟨q,hq⟩:∃q,C.freeTo k=q:=⟨_,rfl⟩
   rw[hq] at hle hnx ⊢
   obtain⟨r,hr⟩:∃r,C.may k=r:=⟨_,rfl⟩
   have Hr:=Lib.hid hr
   have e3:(k:Int)<(C.n:Int):=by omega
   clear hq hr
   go_wp2_with fail
   refine (qct H k hlt r Hr.out).mono ?_
   rintro e w1 ⟨rfl,rfl⟩
   cases r with
   |true=>
    have hE:=Lib.hid (show C.freeTo (k+1)=q+1 by rw[hnx.out,if_pos Hr.out])
    go_wp2
    refine⟨⟨k+1,by omega,by go_num,by rw[hE.out];go_num⟩,by simp[intOf];omega⟩
   |false=>
    have hE:=Lib.hid (show C.freeTo (k+1)=q by rw[hnx.out,if_neg (by rw[Hr.out];decide),Nat.add_zero])
    go_wp2
    refine⟨⟨k+1,by omega,by go_num,by rw[hE.out]⟩,by simp[intOf];omega⟩
  ·have hkn:k=C.n:=by omega
   have e3:¬(k:Int)<(C.n:Int):=by omega
   have hE:=Lib.hid (show C.freeTo k=n by rw[hkn];exact Hn.out)
   clear hkn
   go_wp2
   go_ret
   exact⟨by rw[←hE.out];rfl,rfl⟩
theorem TPart:RowT Tryz.prog 67 30 1 24 (.slice none 0 0):=⟨Tryz.underlying67,by kernel_rfl,rfl,by omega⟩
def PRow (w:World)(base:Nat)(A:Option Addr)(n c:Nat)(ls:List (List UInt8)):Prop:=
 ∃raw,OwnS w base 30 1 A n c raw∧raw.length=ls.length∧∀(j:Nat) r l,raw[j]?=some r→ls[j]?=some l→∃V p q,r=[.slice V p q]∧Sl w V p q l∧∀g,q02 V=some g→g<w.heap.size∧q02 A≠some g
section
variable {w w':World}{base n c:Nat}{A:Option Addr}{ls:List (List UInt8)}
theorem PRow.below (h:PRow w base A n c ls)(hb:Below w.heap.size w w'):PRow w' base A n c ls:=by
 obtain⟨raw,h1,h2,h3⟩:=h
 refine⟨raw,h1.below hb,h2,fun j r x hr hx=>?_⟩
 obtain⟨V,p,q,e,hs,hne⟩:=h3 j r x hr hx
 exact⟨V,p,q,e,hs.below hb,fun g hg=>⟨by have:=(hne g hg).1;have:=hb.size;omega,(hne g hg).2⟩⟩
theorem PRow.blockLt (h:PRow w base A n c ls):∀k,q02 A=some k→base≤k∧k<w.heap.size:=by
 obtain⟨raw,h1,_⟩:=h
 exact h1.blockLt
theorem PRow.len (h:PRow w base A n c ls):ls.length=n:=by
 obtain⟨raw,h1,h2,_⟩:=h
 have:=h1.len (by omega)
 omega
theorem PRow.parts (h:PRow w base A n c ls):Parts w A n c ls:=by
 have hl:=h.len
 obtain⟨raw,h1,h2,h3⟩:=h
 have hs:=h1.sls (by omega)
 refine⟨hl,hs.cap,hs.max,fun j l hj=>?_⟩
 have hjr:j<raw.length:=by rw[h2];exact (List.getElem?_eq_some_iff.1 hj).1
 obtain⟨V,p,q,e,hsl,_⟩:=h3 j _ l (List.getElem?_eq_getElem hjr) hj
 obtain⟨g,o,hA,hg,_,hr⟩:=hs.2.2.2 j _ (List.getElem?_eq_getElem hjr)
 have h0:=hr 0 (.slice V p q) (by rw[e];rfl)
 rw[Nat.mul_one,Nat.add_zero] at h0
 exact⟨⟨g,o,none⟩,V,p,q,hA,hg,by rw[Addr.add_mid];exact h0,hsl⟩
end
end Go.Proofs.YtipejjgodnnkaaaGreatDoor
