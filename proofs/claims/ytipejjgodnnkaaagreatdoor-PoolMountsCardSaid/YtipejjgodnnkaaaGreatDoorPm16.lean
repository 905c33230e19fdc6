/- The reference's Keys: a node's keys -/
import Derived.Test.YtipejjgodnnkaaaGreatDoorPm7
import Derived.Test.YtipejjgodnnkaaaGreatDoorPm15
namespace Go.Proofs.YtipejjgodnnkaaaGreatDoor
open Go Go.RowKit Go.Proofs
set_option maxHeartbeats 8000000
set_option maxRecDepth 10000
theorem TKey:RowT Tryz.prog 214 140 3 24 (.agg #[.int .i64 0,.int .i64 0,.int .i64 0]):=⟨Tryz.underlying214,by kernel_rfl,rfl,by omega⟩
def Nd.keys (N:Nd):List Kd:=N.items.map (·.k)++N.kids.map (·.k)
def NB (w:World)(b:Nat)(l:Int)(A:Option Addr)(n c:Nat)(B:Option Addr)(m d:Nat):Prop:=∃t,w.heap[b]?=some (.cells #[.int .i64 l,.slice A n c,.slice B m d] t (0,0))
section
variable {w w':World}{b:Nat}{l:Int}{A B:Option Addr}{n c m d:Nat}
theorem NB.new (w:World)(l:Int)(A:Option Addr)(n c:Nat)(B:Option Addr)(m d:Nat)(t:TypeId):NB (w.alloc (.cells #[.int .i64 l,.slice A n c,.slice B m d] t)) w.heap.size l A n c B m d:=⟨t,heap_alloc_new w _⟩
theorem NB.below (H:NB w b l A n c B m d){E:Nat}(hb:Below E w w')(hB:b<E):NB w' b l A n c B m d:=by
 obtain⟨t,H⟩:=H
 exact⟨t,(hb.block b hB).trans H⟩
theorem NB.lt (H:NB w b l A n c B m d):b<w.heap.size:=by
 obtain⟨t,H⟩:=H
 exact (Array.getElem?_eq_some_iff.1 H).1
theorem NB.c0 (H:NB w b l A n c B m d):w.cell? ⟨b,0,none⟩=some (.int .i64 l):=by
 obtain⟨t,H⟩:=H
 rw[cell_of_row _ _ _ _ _ _ H];rfl
theorem NB.c1 (H:NB w b l A n c B m d):w.cell? ⟨b,1,none⟩=some (.slice A n c):=by
 obtain⟨t,H⟩:=H
 rw[cell_of_row _ _ _ _ _ _ H];rfl
theorem NB.c2 (H:NB w b l A n c B m d):w.cell? ⟨b,2,none⟩=some (.slice B m d):=by
 obtain⟨t,H⟩:=H
 rw[cell_of_row _ _ _ _ _ _ H];rfl
end
theorem qnt {w:World}{base:Nat}{A:Option Addr}{n c:Nat}{ks:List Kd}(h:OwnS w base 140 3 A n c (ks.map kvs)):Keyl w A n c ks:=h.sls (by omega)
theorem qgh (w:World)(k:Kd):Sls (w.alloc (.cells #[.int .i64 k.obj,.int .i64 k.kind,.int .i64 k.off] 140)) 3 (some ⟨w.heap.size,0,none⟩) 1 1 [kvs k]:=(q2a w 140 3 (kvs k) _ rfl rfl).sls (by omega)
theorem qk5 (k:Kd):∀y∈[kvs k],∀u∈y,u.oneCell'=true:=by
 intro y hy u hu
 obtain rfl:y=kvs k:=by simpa using hy
 simp[kvs] at hu
 rcases hu with rfl|rfl|rfl<;>rfl
def keysTo (N:Nd)(j:Nat):List (List Value):=(N.keys.take j).map kvs
theorem qhy (N:Nd)(j:Nat)(h:N.keys.length≤j):keysTo N j=N.keys.map kvs:=by unfold keysTo;rw[List.take_of_length_le h]
theorem qer (N:Nd)(j:Nat)(h:j<N.items.length):keysTo N (j+1)=keysTo N j++[kvs (itAt N.items j).k]:=by
 unfold keysTo
 have hj:j<N.keys.length:=by unfold Nd.keys;simp;omega
 rw[List.take_succ_eq_append_getElem hj,List.map_append,List.map_cons,List.map_nil]
 congr 3
 have:N.keys[j]?=some (itAt N.items j).k:=by
  unfold Nd.keys
  rw[List.getElem?_append_left (by simpa using h),List.getElem?_map,q2m h];rfl
 rw[List.getElem?_eq_getElem hj] at this
 simpa using this
theorem qhz (N:Nd)(j:Nat)(h:j<N.kids.length):keysTo N (N.items.length+j+1)=keysTo N (N.items.length+j)++[kvs (kidAt N.kids j).k]:=by
 unfold keysTo
 have hj:N.items.length+j<N.keys.length:=by unfold Nd.keys;simp;omega
 rw[List.take_succ_eq_append_getElem hj,List.map_append,List.map_cons,List.map_nil]
 congr 3
 have:N.keys[N.items.length+j]?=some (kidAt N.kids j).k:=by
  unfold Nd.keys
  rw[List.getElem?_append_right (by simp),List.getElem?_map]
  simp[q2b h]
 rw[List.getElem?_eq_getElem hj] at this
 simpa using this
theorem q8a (N:Nd)(A:Option Addr)(n c:Nat)(B:Option Addr)(m d:Nat)(w:World)(hI:Itms w A n c N.items)(hK:Kidl w B m d N.kids)(hn:n≤1000)(hm:m≤1000) :
  Calls Tryz.prog 167 #[.agg #[.int .i64 N.lvl,.slice A n c,.slice B m d]] w fun e w'=>∃A' n' c',e=.returned (.slice A' n' c')∧n'≤n+m∧Keyl w' A' n' c' N.keys∧Below w.heap.size w w':=by
 have HlI:=Lib.hid hI.len
 have HlK:=Lib.hid hK.len
 have hkl:=Lib.hid (show N.keys.length=n+m by unfold Nd.keys;rw[List.length_append,List.length_map,List.length_map,HlI.out,HlK.out])
 go_enter Tryz.func167,Tryz.ntmps167
 go_wp2_with fail
 have N1:NB (w.alloc (.cells #[.int .i64 N.lvl,.slice A n c,.slice B m d] 29)) w.heap.size N.lvl A n c B m d:=NB.new w _ _ _ _ _ _ _ _
 have b1:Below w.heap.size w (w.alloc (.cells #[.int .i64 N.lvl,.slice A n c,.slice B m d] 29)):=blA
 have z1:=N1.lt
 have N2:=N1.below ((Below.refl _ _).alloc (Nat.le_refl _) (.cells #[] 140)) z1
 have B2:Below w.heap.size w ((w.alloc (.cells #[.int .i64 N.lvl,.slice A n c,.slice B m d] 29)).alloc (.cells #[] 140)):=b1.trans ((blA).mono b1.size)
 have o1:OwnS ((w.alloc (.cells #[.int .i64 N.lvl,.slice A n c,.slice B m d] 29)).alloc (.cells #[] 140)) (w.heap.size+1) 140 3 (some ⟨w.heap.size+1,0,none⟩) 0 0 []:=by
  have:=qe1 (w.alloc (.cells #[.int .i64 N.lvl,.slice A n c,.slice B m d] 29)) 140 3
  rwa [World.size_alloc] at this
 generalize (w.alloc (.cells #[.int .i64 N.lvl,.slice A n c,.slice B m d] 29)).alloc (.cells #[] 140)=w2 at N2 B2 o1 ⊢
 go_loopw [3,4] (fun l i wr=>∃(j:Nat) (A':Option Addr) (c':Nat),j≤n∧i=.int .i64 (j:Int)∧l=.slice A' (j) c'∧OwnS wr (w.heap.size+1) 140 3 A' (j) c' (keysTo N (j))∧NB wr w.heap.size N.lvl A n c B m d∧Below w.heap.size w wr) (fun _ i _=>n-(intOf i).toNat)
 case atStart=>exact⟨0,_,_,Nat.zero_le _,rfl,rfl,o1,N2,B2⟩
 case round=>
  obtain⟨j,A',c',hj,rfl,rfl,own,NN,hB⟩:=hrel
  by_cases hlt:j<n
  ·obtain⟨g,o,B',m',d',hA,hg,c0,c1,c2,_⟩:=(hI.below hB).cell hlt
   subst hA
   obtain⟨k,hk⟩:∃k,(itAt N.items j).k=k:=⟨_,rfl⟩
   rw[hk] at c0 c1 c2
   have nn:=NN.c1
   have hz:=NN.lt
   have b2:Below wr.heap.size wr (wr.alloc (.cells #[.int .i64 (k).obj,.int .i64 (k).kind,.int .i64 (k).off] 140)):=blA
   go_wp2_with (first
    |(at_builtin;refine q9c _ TKey rfl _ _ rfl (w.heap.size+1) A' (j) c' (keysTo N (j)) rfl (own.below b2) (some ⟨wr.heap.size,0,none⟩) 1 1 [kvs k] rfl (qgh wr k) (by omega) (qk5 k) (by omega) (by omega) (by have:=b2.size;omega) ?_)
    |fail)
   intro A2 c2' w2 own2 hb2
   have hb3:Below (w.heap.size+1) wr w2:=(b2.mono (by omega)).trans hb2
   have NN2:=NN.below hb3 (by omega)
   have hB2:=hB.trans (hb3.mono (by omega))
   have e2:=qer N j (by rw[HlI.out];exact hlt)
   rw[hk] at e2
   rw[←e2] at own2
   go_wp2
   exact⟨⟨j+1,_,_,by omega,by go_num,rfl,own2,NN2,hB2⟩,by simp[intOf];omega⟩
  ·obtain rfl:n=j:=by omega
   have nn:=NN.c1
   go_wp2_with fail
   go_loopw [3,5] (fun l i wr=>∃(j:Nat) (A':Option Addr) (c':Nat),j≤m∧i=.int .i64 (j:Int)∧l=.slice A' (n+j) c'∧OwnS wr (w.heap.size+1) 140 3 A' (n+j) c' (keysTo N (n+j))∧NB wr w.heap.size N.lvl A n c B m d∧Below w.heap.size w wr) (fun _ i _=>m-(intOf i).toNat)
   case atStart=>exact⟨0,_,_,Nat.zero_le _,rfl,rfl,own,NN,hB⟩
   case round=>
    obtain⟨j,A',c',hj,rfl,rfl,own,NN,hB⟩:=hrel
    by_cases hlt:j<m
    ·obtain⟨g,o,hA,hg,c0,c1,c2,_⟩:=(hK.below hB).cell hlt
     subst hA
     obtain⟨k,hk⟩:∃k,(kidAt N.kids j).k=k:=⟨_,rfl⟩
     rw[hk] at c0 c1 c2
     have nn:=NN.c2
     have hz:=NN.lt
     have b2:Below wr.heap.size wr (wr.alloc (.cells #[.int .i64 (k).obj,.int .i64 (k).kind,.int .i64 (k).off] 140)):=blA
     go_wp2_with (first
      |(at_builtin;refine q9c _ TKey rfl _ _ rfl (w.heap.size+1) A' (n+j) c' (keysTo N (n+j)) rfl (own.below b2) (some ⟨wr.heap.size,0,none⟩) 1 1 [kvs k] rfl (qgh wr k) (by omega) (qk5 k) (by omega) (by omega) (by have:=b2.size;omega) ?_)
      |fail)
     intro A2 c2' w2 own2 hb2
     have hb3:Below (w.heap.size+1) wr w2:=(b2.mono (by omega)).trans hb2
     have NN2:=NN.below hb3 (by omega)
     have hB2:=hB.trans (hb3.mono (by omega))
     have e2:=qhz N j (by rw[HlK.out];exact hlt)
     rw[hk] at e2
     rw[HlI.out] at e2
     rw[←e2] at own2
     go_wp2
     exact⟨⟨j+1,_,_,by omega,by go_num,rfl,own2,NN2,hB2⟩,by simp[intOf];omega⟩
    ·obtain rfl:m=j:=by omega
     have nn:=NN.c2
     rw[qhy N (n+m) (by rw[hkl.out];omega)] at own
     go_wp2
     go_ret
     exact⟨_,_,_,rfl,Nat.le_refl _,qnt own,hB⟩
def q34 (N:Nd):Bool:=N.items.all fun x=>decide (x.v.length≤28)
def kidsOk (N:Nd):Bool:=N.kids.all fun x=>decide (1≤x.a∧x.a<2048)
def Nd.may (N:Nd):Bool:=
 if N.lvl=0 then q34 N&&(rises N.keys&&decide (N.kids.length=0∧1≤N.items.length∧N.items.length≤6))
 else kidsOk N&&(rises N.keys&&decide (1≤N.lvl∧N.lvl<8∧N.items.length=0∧2≤N.kids.length∧N.kids.length≤12))
theorem qi0 {N:Nd}{j:Nat}(hj:j<N.items.length)(h:¬(itAt N.items j).v.length≤28):q34 N=false:=by
 unfold q34
 rw[List.all_eq_false]
 exact⟨_,List.mem_of_getElem? (q2m hj),by simpa using h⟩
theorem q8b {N:Nd}(h:∀j,j<N.items.length→(itAt N.items j).v.length≤28):q34 N=true:=by
 unfold q34
 rw[List.all_eq_true]
 intro x hx
 obtain⟨j,hj⟩:=List.mem_iff_getElem?.1 hx
 have hl:=(List.getElem?_eq_some_iff.1 hj).1
 have:=q2m hl
 rw[hj] at this
 obtain rfl:=Option.some.inj this
 exact decide_eq_true (h j hl)
theorem qco {N:Nd}{j:Nat}(hj:j<N.kids.length)(h:¬(1≤(kidAt N.kids j).a∧(kidAt N.kids j).a<2048)):kidsOk N=false:=by
 unfold kidsOk
 rw[List.all_eq_false]
 exact⟨_,List.mem_of_getElem? (q2b hj),by rw[decide_eq_false h];simp⟩
theorem q9v {N:Nd}(h:∀j,j<N.kids.length→1≤(kidAt N.kids j).a∧(kidAt N.kids j).a<2048):kidsOk N=true:=by
 unfold kidsOk
 rw[List.all_eq_true]
 intro x hx
 obtain⟨j,hj⟩:=List.mem_iff_getElem?.1 hx
 have hl:=(List.getElem?_eq_some_iff.1 hj).1
 have:=q2b hl
 rw[hj] at this
 obtain rfl:=Option.some.inj this
 exact decide_eq_true (h j hl)
theorem q5b (N:Nd)(A:Option Addr)(n c:Nat)(B:Option Addr)(m d:Nat)(w:World)(hI:Itms w A n c N.items)(hK:Kidl w B m d N.kids)(hn:n≤1000)(hm:m≤1000) :
  Calls Tryz.prog 105 #[.agg #[.int .i64 N.lvl,.slice A n c,.slice B m d]] w fun e w'=>e=.returned (.bool N.may)∧Below w.heap.size w w':=by
 have HlI:=Lib.hid hI.len
 have HlK:=Lib.hid hK.len
 obtain⟨r,hr⟩:∃r,rises N.keys=r:=⟨_,rfl⟩
 by_cases hl:N.lvl=0
 ·have hmay:N.may=(q34 N&&(r&&decide (m=0∧1≤n∧n≤6))):=by unfold Nd.may;rw[if_pos hl,hr,HlI.out,HlK.out]
  have Hmay:=Lib.hid hmay
  clear hmay
  have hlb:decide (N.lvl=0)=true:=decide_eq_true hl
  have hlb2:(N.lvl==0)=true:=by simp[hl]
  clear hl
  go_enter Tryz.func105,Tryz.ntmps105
  go_wp2_with fail
  have N1:NB (w.alloc (.cells #[.int .i64 N.lvl,.slice A n c,.slice B m d] 29)) w.heap.size N.lvl A n c B m d:=NB.new w _ _ _ _ _ _ _ _
  have b1:Below w.heap.size w (w.alloc (.cells #[.int .i64 N.lvl,.slice A n c,.slice B m d] 29)):=blA
  generalize w.alloc (.cells #[.int .i64 N.lvl,.slice A n c,.slice B m d] 29)=w1 at N1 b1 ⊢
  refine (q8a N A n c B m d w1 (hI.below b1) (hK.below b1) hn hm).mono ?_
  rintro e w2 ⟨A2,n2,c2,rfl,hn2,hk2,hb2⟩
  have N2:=N1.below hb2 N1.lt
  have B2:=b1.trans (hb2.mono b1.size)
  clear N1 b1 hb2
  go_wp2_with fail
  refine (q89 A2 n2 c2 _ w2 hk2 (by omega)).mono ?_
  rw[hr]
  rintro e w3 ⟨rfl,hb3⟩
  have N3:=N2.below hb3 N2.lt
  have B3:=B2.trans (hb3.mono B2.size)
  have q0:=N3.c0
  have q1:=N3.c1
  have q2:=N3.c2
  have hI3:=hI.below B3
  have hK3:=hK.below B3
  clear N2 B2 hb3 hk2
  go_wp2_with fail
  go_loop [4] (fun i=>∃j:Nat,j≤n∧i=.int .i64 (j:Int)∧∀q,q<j→(itAt N.items q).v.length≤28) (fun i=>n-(intOf i).toNat)
  case atStart=>exact⟨0,Nat.zero_le _,rfl,fun q hq=>by omega⟩
  case round=>
   obtain⟨j,hj,rfl,hall⟩:=hrel
   by_cases hlt:j<n
   ·obtain⟨g,o,B',m',d',hA,hg,_,_,_,c3,hsl⟩:=hI3.cell hlt
    subst hA
    have hl2:=Lib.hid hsl.len
    by_cases h28:m'≤28
    ·have hm':¬(28:Int)<(m':Int):=by omega
     go_wp2
     refine⟨⟨j+1,by omega,by go_num,fun q hq=>?_⟩,by simp[intOf];omega⟩
     rcases (by omega:q<j∨q=j) with h1|rfl
     ·exact hall q h1
     ·rw[hl2.out];exact h28
    ·have hm':(28:Int)<(m':Int):=by omega
     go_wp2
     go_ret
     have hno:N.may=false:=by rw[Hmay.out,qi0 (j:=j) (by rw[HlI.out];exact hlt) (by rw[hl2.out];exact h28)];rfl
     exact⟨by rw[hno];rfl,B3⟩
   ·obtain rfl:n=j:=by omega
    have hyes:q34 N=true:=q8b fun q hq=>hall q (by rw[HlI.out] at hq;exact hq)
    cases r
    ·have hno:=Lib.hid (show N.may=false by rw[Hmay.out,hyes];rfl)
     go_wp2
     go_ret
     exact⟨by rw[hno.out];rfl,B3⟩
    ·have Hfin:=Lib.hid (show N.may=decide (m=0∧1≤n∧n≤6) by rw[Hmay.out,hyes,Bool.true_and,Bool.true_and])
     clear hyes
     by_cases h1:m=0
     ·subst h1
      by_cases h2:1≤n
      ·have h2':(1:Int)≤(n:Int):=by omega
       go_wp2
       go_ret
       exact⟨by rw[Hfin.out];exact congrArg (fun x=>Ending.returned (Value.bool x)) (show decide ((n:Int)≤6)=_ from decide_eq_decide.2 ⟨fun h=>⟨trivial,h2,by omega⟩,fun h=>by have:=h.2.2;omega⟩),B3⟩
      ·have h2':¬(1:Int)≤(n:Int):=by omega
       go_wp2
       go_ret
       exact⟨by rw[Hfin.out,decide_eq_false (by omega)];rfl,B3⟩
     ·have h1a:((m:Int)==0)=false:=by simp;omega
      have h1b:decide ((m:Int)=0)=false:=decide_eq_false (by omega)
      have h1c:¬(m:Int)=0:=by omega
      go_wp2
      go_ret
      exact⟨by rw[Hfin.out,decide_eq_false (by omega)];rfl,B3⟩
 ·have hmay:N.may=(kidsOk N&&(r&&decide (1≤N.lvl∧N.lvl<8∧n=0∧2≤m∧m≤12))):=by unfold Nd.may;rw[if_neg hl,hr,HlI.out,HlK.out]
  have Hmay:=Lib.hid hmay
  clear hmay
  have hlb:decide (N.lvl=0)=false:=decide_eq_false hl
  have hlb2:(N.lvl==0)=false:=by simp[hl]
  go_enter Tryz.func105,Tryz.ntmps105
  go_wp2_with fail
  have N1:NB (w.alloc (.cells #[.int .i64 N.lvl,.slice A n c,.slice B m d] 29)) w.heap.size N.lvl A n c B m d:=NB.new w _ _ _ _ _ _ _ _
  have b1:Below w.heap.size w (w.alloc (.cells #[.int .i64 N.lvl,.slice A n c,.slice B m d] 29)):=blA
  generalize w.alloc (.cells #[.int .i64 N.lvl,.slice A n c,.slice B m d] 29)=w1 at N1 b1 ⊢
  refine (q8a N A n c B m d w1 (hI.below b1) (hK.below b1) hn hm).mono ?_
  rintro e w2 ⟨A2,n2,c2,rfl,hn2,hk2,hb2⟩
  have N2:=N1.below hb2 N1.lt
  have B2:=b1.trans (hb2.mono b1.size)
  clear N1 b1 hb2
  go_wp2_with fail
  refine (q89 A2 n2 c2 _ w2 hk2 (by omega)).mono ?_
  rw[hr]
  rintro e w3 ⟨rfl,hb3⟩
  have N3:=N2.below hb3 N2.lt
  have B3:=B2.trans (hb3.mono B2.size)
  have q0:=N3.c0
  have q1:=N3.c1
  have q2:=N3.c2
  have hI3:=hI.below B3
  have hK3:=hK.below B3
  clear N2 B2 hb3 hk2
  go_wp2_with fail
  go_loop [5] (fun i=>∃j:Nat,j≤m∧i=.int .i64 (j:Int)∧∀q,q<j→1≤(kidAt N.kids q).a∧(kidAt N.kids q).a<2048) (fun i=>m-(intOf i).toNat)
  case atStart=>exact⟨0,Nat.zero_le _,rfl,fun q hq=>by omega⟩
  case round=>
   obtain⟨j,hj,rfl,hall⟩:=hrel
   by_cases hlt:j<m
   ·obtain⟨g,o,hA,hg,_,_,_,c3⟩:=hK3.cell hlt
    subst hA
    obtain⟨a,ha⟩:∃a,(kidAt N.kids j).a=a:=⟨_,rfl⟩
    rw[ha] at c3
    have Ha:=Lib.hid ha
    clear ha
    by_cases h1:1≤a
    ·have h1':¬a<1:=by omega
     by_cases h2:a<2048
     ·have h2':¬(2048:Int)≤a:=by omega
      go_wp2
      refine⟨⟨j+1,by omega,by go_num,fun q hq=>?_⟩,by simp[intOf];omega⟩
      rcases (by omega:q<j∨q=j) with h3|rfl
      ·exact hall q h3
      ·rw[Ha.out];exact⟨h1,h2⟩
     ·have h2':(2048:Int)≤a:=by omega
      go_wp2
      go_ret
      have hno:N.may=false:=by rw[Hmay.out,qco (j:=j) (by rw[HlK.out];exact hlt) (by rw[Ha.out];omega)];rfl
      exact⟨by rw[hno];rfl,B3⟩
    ·have h1':a<1:=by omega
     go_wp2
     go_ret
     have hno:N.may=false:=by rw[Hmay.out,qco (j:=j) (by rw[HlK.out];exact hlt) (by rw[Ha.out];omega)];rfl
     exact⟨by rw[hno];rfl,B3⟩
   ·obtain rfl:m=j:=by omega
    have hyes:kidsOk N=true:=q9v fun q hq=>hall q (by rw[HlK.out] at hq;exact hq)
    cases r
    ·have hno:=Lib.hid (show N.may=false by rw[Hmay.out,hyes];rfl)
     go_wp2
     go_ret
     exact⟨by rw[hno.out];rfl,B3⟩
    ·have Hfin:=Lib.hid (show N.may=decide (1≤N.lvl∧N.lvl<8∧n=0∧2≤m∧m≤12) by rw[Hmay.out,hyes,Bool.true_and,Bool.true_and])
     clear hyes
     by_cases h1:1≤N.lvl
     ·by_cases h2:N.lvl<8
      ·by_cases h3:n=0
       ·subst h3
        by_cases h4:2≤m
        ·have h4':(2:Int)≤(m:Int):=by omega
         go_wp2
         go_ret
         exact⟨by rw[Hfin.out];exact congrArg (fun x=>Ending.returned (Value.bool x)) (show decide ((m:Int)≤12)=_ from decide_eq_decide.2 ⟨fun h=>⟨h1,h2,trivial,h4,by omega⟩,fun h=>by have:=h.2.2.2.2;omega⟩),B3⟩
        ·have h4':¬(2:Int)≤(m:Int):=by omega
         go_wp2
         go_ret
         exact⟨by rw[Hfin.out,decide_eq_false (by omega)];rfl,B3⟩
       ·have h3a:((n:Int)==0)=false:=by simp;omega
        have h3b:decide ((n:Int)=0)=false:=decide_eq_false (by omega)
        have h3c:¬(n:Int)=0:=by omega
        go_wp2
        go_ret
        exact⟨by rw[Hfin.out,decide_eq_false (by omega)];rfl,B3⟩
      ·go_wp2
       go_ret
       exact⟨by rw[Hfin.out,decide_eq_false (by omega)];rfl,B3⟩
     ·go_wp2
      go_ret
      exact⟨by rw[Hfin.out,decide_eq_false (by omega)];rfl,B3⟩
section
variable {P:Program}{t e:TypeId}(w:World)
theorem qb3 (T:ByteT P t e){ops:Array Oper}{o:Oper}{a:Act}{K:Act→World→Prop}{Q:Exit→Act→World→Prop}{E:Prop}(hgd:o.guard=none)(s x:Operand)
  (ho:o.op=.call { callee:=.builtin .append,args:=#[s,x],argTypes:=#[t,t] })
  (base:Nat) (A:Option Addr) (n c:Nat) (l:List UInt8) (hs:a.eval s=.slice A n c) (hown:Own w base e A n c l)
  (B:Option Addr) (m d:Nat) (l2:List UInt8) (hx:a.eval x=.slice B m d) (hr:Sl w B m d l2) (hnm:n+m≤140737488355328) (hbase:base≤w.heap.size)
  (h:∀A' c' w',Own w' base e A' (n+m) c' (l++l2)→Below base w w'→K (a.put o.dst (.slice A' (n+m) c')) w') :
  if Region.wanted o (yielded ops a.tmps)=true then Oper.wp P o a w K Q else E:=by
 rw[if_pos (by simp[Region.wanted,hgd])]
 obtain⟨A',c',w',hrun,h2,h3,_⟩:=q3i (P:=P) w T o.type base A n c l hown B m d l2 hr hnm hbase
 unfold Oper.wp execOp
 simp only[ho,resolve,invoke,builtin,Sem.run_bind,Sem.run_pure,Result.andThen_ok,List.map_toArray,List.map_cons,List.map_nil,hs,hx,hrun]
 exact h A' c' w' h2 h3
end
def q0z (x:Itm):List UInt8:=x.k.bytes++(dig (x.v.length:Int) 1++x.v)
def q0q (x:Kidd):List UInt8:=x.k.bytes++dig x.a 2
def bodyI (N:Nd)(j:Nat):List UInt8:=(N.items.take j).flatMap q0z
def bodyK (N:Nd)(j:Nat):List UInt8:=N.items.flatMap q0z++(N.kids.take j).flatMap q0q
def Nd.body (N:Nd):List UInt8:=N.items.flatMap q0z++N.kids.flatMap q0q
theorem qi1 (N:Nd)(j:Nat)(h:j<N.items.length):bodyI N (j+1)=bodyI N j++q0z (itAt N.items j):=by
 unfold bodyI
 rw[List.take_succ_eq_append_getElem h,List.flatMap_append]
 have:=q2m h
 rw[List.getElem?_eq_getElem h] at this
 rw[Option.some.inj this]
 simp
theorem qk6 (N:Nd):bodyI N N.items.length=bodyK N 0:=by
 unfold bodyI bodyK
 rw[List.take_length];simp
theorem qi2 (N:Nd)(j:Nat)(h:j<N.kids.length):bodyK N (j+1)=bodyK N j++q0q (kidAt N.kids j):=by
 unfold bodyK
 rw[List.take_succ_eq_append_getElem h,List.flatMap_append,←List.append_assoc]
 have:=q2b h
 rw[List.getElem?_eq_getElem h] at this
 rw[Option.some.inj this]
 simp
theorem qk7 (N:Nd):bodyK N N.kids.length=N.body:=by
 unfold bodyK Nd.body
 rw[List.take_length]
def Nd.head (N:Nd)(addr gen:Int):Hd:=⟨if 0<N.lvl then 4 else 3,addr,(N.items.length:Int)+(N.kids.length:Int),N.lvl,gen⟩
def writeB (N:Nd)(addr gen:Int):List UInt8:=if N.may=true then sealB (N.head addr gen) N.body else []
def writeE (N:Nd)(addr gen:Int):Int:=if N.may=true then sealE (N.head addr gen) N.body else 1
theorem q1v {N:Nd}(h:N.may=true):N.items.length≤6∧N.kids.length≤12∧(∀j,j<N.items.length→(itAt N.items j).v.length≤28)∧0≤N.lvl:=by
 unfold Nd.may at h
 split at h
 ·rename_i hl
  rw[Bool.and_eq_true,Bool.and_eq_true] at h
  obtain⟨h1,_,h2⟩:=h
  have h2:=of_decide_eq_true h2
  refine⟨h2.2.2,by omega,fun j hj=>?_,by omega⟩
  unfold q34 at h1
  exact of_decide_eq_true (List.all_eq_true.1 h1 _ (List.mem_of_getElem? (q2m hj)))
 ·rw[Bool.and_eq_true,Bool.and_eq_true] at h
  obtain⟨_,_,h2⟩:=h
  have h2:=of_decide_eq_true h2
  exact⟨by omega,h2.2.2.2.2,fun j hj=>by omega,by omega⟩
theorem q4f (N:Nd)(addr gen:Int)(A:Option Addr)(n c:Nat)(B:Option Addr)(m d:Nat)(w:World)(hI:Itms w A n c N.items)(hK:Kidl w B m d N.kids)(hn:n≤1000)(hm:m≤1000) :
  Calls Tryz.prog 68 #[.agg #[.int .i64 N.lvl,.slice A n c,.slice B m d],.int .i64 addr,.int .i64 gen] w fun e w'=>∃A' n' c',e=.returned (.tuple #[.slice A' n' c',.int .i64 (writeE N addr gen)])∧Own w' w.heap.size 5 A' n' c' (writeB N addr gen)∧Below w.heap.size w w':=by
 have HlI:=Lib.hid hI.len
 have HlK:=Lib.hid hK.len
 go_enter Tryz.func68,Tryz.ntmps68
 go_wp2_with fail
 have N1:NB (w.alloc (.cells #[.int .i64 N.lvl,.slice A n c,.slice B m d] 29)) w.heap.size N.lvl A n c B m d:=NB.new w _ _ _ _ _ _ _ _
 have b1:Below w.heap.size w (w.alloc (.cells #[.int .i64 N.lvl,.slice A n c,.slice B m d] 29)):=blA
 generalize w.alloc (.cells #[.int .i64 N.lvl,.slice A n c,.slice B m d] 29)=w1 at N1 b1 ⊢
 refine (q5b N A n c B m d w1 (hI.below b1) (hK.below b1) hn hm).mono ?_
 cases hmay:N.may
 ·rintro e w2 ⟨rfl,hb2⟩
  go_wp2
  go_ret2
  have h1:writeE N addr gen=1:=by unfold writeE;rw[hmay];rfl
  have h2:writeB N addr gen=[]:=by unfold writeB;rw[hmay];rfl
  rw[h1,h2]
  exact⟨_,_,_,rfl,own_none _ _ _,b1.trans (hb2.mono b1.size)⟩
 ·rintro e w2 ⟨rfl,hb2⟩
  have N2:=N1.below hb2 N1.lt
  have B2:=b1.trans (hb2.mono b1.size)
  obtain⟨hn6,hm12,hvals,hl0⟩:=q1v hmay
  have Hv:=Lib.hid hvals
  rw[HlI.out] at hn6
  rw[HlK.out] at hm12
  have Hmay:=Lib.hid hmay
  clear hmay hvals N1 b1 hb2
  go_wp2_with fail
  have own0:Own (w2.alloc (.cells #[] 5)) (w.heap.size+1) 5 (some ⟨w2.heap.size,0,none⟩) 0 0 (bodyI N 0):=(q11 w2 5).less N2.lt
  have ba:Below w2.heap.size w2 (w2.alloc (.cells #[] 5)):=blA
  have N3:=N2.below ba N2.lt
  have B3:=B2.trans (ba.mono B2.size)
  generalize w2.alloc (.cells #[] 5)=w3 at own0 N3 B3 ⊢
  clear ba N2 B2
  go_loopw [9,10] (fun b i wr=>∃(j q:Nat) (A':Option Addr) (c':Nat),j≤n∧q≤60*j∧i=.int .i64 (j:Int)∧b=.slice A' q c'∧Own wr (w.heap.size+1) 5 A' q c' (bodyI N j)∧NB wr w.heap.size N.lvl A n c B m d∧Below w.heap.size w wr) (fun _ i _=>n-(intOf i).toNat)
  case atStart=>exact⟨0,0,_,_,Nat.zero_le _,by omega,rfl,rfl,own0,N3,B3⟩
  case round=>
   obtain⟨j,q,A',c',hj,hq,rfl,rfl,own,NN,hB⟩:=hrel
   have nn:=NN.c1
   have hz:=NN.lt
   by_cases hlt:j<n
   ·obtain⟨g,o,B',m',d',hA,hg,k0,k1,k2,c3,hsl⟩:=hI.cell hlt
    subst hA
    replace k0:=(hB.cell (p:=⟨g,_,none⟩) hg).trans k0
    replace k1:=(hB.cell (p:=⟨g,_,none⟩) hg).trans k1
    replace k2:=(hB.cell (p:=⟨g,_,none⟩) hg).trans k2
    replace c3:=(hB.cell (p:=⟨g,_,none⟩) hg).trans c3
    have hv28:=Hv.out j (by rw[HlI.out];exact hlt)
    have Hnext:=Lib.hid (qi1 N j (by rw[HlI.out];exact hlt))
    obtain⟨x,hx⟩:∃x,itAt N.items j=x:=⟨_,rfl⟩
    rw[hx] at k0 k1 k2 hsl hv28 Hnext
    have hvl:=hsl.len
    have hm28:m'≤28:=by omega
    have Hvl:=Lib.hid hvl
    clear hx hvl hv28
    go_wp2_with fail
    refine (q88 A' q c' _ x.k wr own.sl (by omega)).mono ?_
    rintro e w4 ⟨A4,n4,c4,rfl,own4,hb4⟩
    have hn4:n4=q+9:=by have:=own4.len;rw[List.length_append,own.len,Kd.bytes_len] at this;omega
    have hn4':n4≤60*j+9:=by omega
    have Hn4:=Lib.hid hn4
    clear hn4 k0 k1 k2
    have N4:=NN.below hb4 hz
    have B4:=hB.trans (hb4.mono hB.size)
    have hg4:g<w4.heap.size:=by have:=B4.size;omega
    have nn4:=N4.c1
    have hz4:=N4.lt
    have d3:=(hb4.cell (p:=⟨g,_,none⟩) (by have:=hB.size;show g<_;omega)).trans c3
    have s4:=hsl.below B4
    clear own nn hz NN hB c3 hb4
    go_wp2_with fail
    have hS:∀w':World,Below w4.heap.size w4 w'→w'.cell? ⟨w.heap.size,1,none⟩=some (.slice (some ⟨g,o,none⟩) n c)∧w'.cell? ⟨g,o+j*4+3,none⟩=some (.slice B' m' d')∧Below w4.heap.size w4 w':=
     fun w' hb=>⟨(hb.cell (p:=⟨w.heap.size,1,none⟩) hz4).trans nn4,(hb.cell (p:=⟨g,_,none⟩) hg4).trans d3,hb⟩
    have BD:Below w4.heap.size w4 w4.drew:=(Below.refl _ w4).drew
    have hj0:(0:Int)≤(j:Int):=by omega
    have hj1:(j:Int)<(n:Int):=by omega
    have z4:w4.heap.size≤w4.drew.heap.size:=Nat.le_refl _
    have p1:(1:Int)≤1:=by omega
    have p2:(1:Int)≤8:=by omega
    have p3:n4≤17592186044416:=by omega
    go_region_held3 (fun w'=>w'.cell? ⟨w.heap.size,1,none⟩=some (.slice (some ⟨g,o,none⟩) n c)∧w'.cell? ⟨g,o+j*4+3,none⟩=some (.slice B' m' d')∧Below w4.heap.size w4 w')
     (first|assumption|exact hS _ BD|exact hS _ bb5|exact hS _ bb6)
     (first
      |(refine qb3 _ T22 rfl (.tmp 41) (.tmp 47) rfl w4.heap.size A5 n5 c5 _ rfl own5 B' m' d' x.v rfl (s4.below bb5) p5 bb5.size ?_;intro A6 c6 w6 own6 hb6;have bb6:Below w4.heap.size w4 w6:=bb5.trans hb6)
      |(go_at_call 124;refine (q25 A4 n4 c4 _ (m':Int) 1 _ own4.sl.drew p3 p1 p2).mono ?_;rintro e w5 ⟨A5,n5,c5,rfl,own5',hn5,hb5⟩;have own5:Own w5 w4.heap.size 5 A5 n5 c5 _:=own5';have bb5:Below w4.heap.size w4 w5:=BD.trans (hb5.mono z4);have p5:n5+m'≤140737488355328:=by omega)
      |fail)
    all_goals
     have e6:bodyI N j++x.k.bytes++dig (m':Int) (1:Int).toNat++x.v=bodyI N (j+1):=by
      rw[Hnext.out]
      unfold q0z
      rw[Hvl.out,List.append_assoc,List.append_assoc]
      rfl
     rw[e6] at own6
     have N6:=N4.below bb6 hz4
     have B6:=B4.trans (bb6.mono B4.size)
     have o6:=own6.less (show w.heap.size+1≤w4.heap.size from hz4)
     clear hS BD
     go_wp2
     exact⟨⟨j+1,_,_,_,by omega,by omega,by go_num,rfl,o6,N6,B6⟩,by simp[intOf];omega⟩
   ·obtain rfl:n=j:=by omega
    have own1:Own wr (w.heap.size+1) 5 A' q c' (bodyK N 0):=by rw[←qk6,HlI.out];exact own
    clear own own0 N3 B3
    go_wp2_with fail
    go_loopw [9,11] (fun b i wr=>∃(j q:Nat) (A':Option Addr) (c':Nat),j≤m∧q≤360+20*j∧i=.int .i64 (j:Int)∧b=.slice A' q c'∧Own wr (w.heap.size+1) 5 A' q c' (bodyK N j)∧NB wr w.heap.size N.lvl A n c B m d∧Below w.heap.size w wr) (fun _ i _=>m-(intOf i).toNat)
    case atStart=>exact⟨0,q,_,_,Nat.zero_le _,by omega,rfl,rfl,own1,NN,hB⟩
    case round=>
     clear own1 NN hB nn hz hq
     obtain⟨j,q,A',c',hj,hq,rfl,rfl,own,NN,hB⟩:=hrel
     have nn:=NN.c2
     have hz:=NN.lt
     by_cases hlt:j<m
     ·obtain⟨g,o,hA,hg,k0,k1,k2,k3⟩:=hK.cell hlt
      subst hA
      replace k0:=(hB.cell (p:=⟨g,_,none⟩) hg).trans k0
      replace k1:=(hB.cell (p:=⟨g,_,none⟩) hg).trans k1
      replace k2:=(hB.cell (p:=⟨g,_,none⟩) hg).trans k2
      replace k3:=(hB.cell (p:=⟨g,_,none⟩) hg).trans k3
      have Hnext:=Lib.hid (qi2 N j (by rw[HlK.out];exact hlt))
      obtain⟨x,hx⟩:∃x,kidAt N.kids j=x:=⟨_,rfl⟩
      rw[hx] at k0 k1 k2 k3 Hnext
      clear hx
      have hgr:g<wr.heap.size:=by have:=hB.size;omega
      go_wp2_with fail
      have hS:∀w':World,Below wr.heap.size wr w'→w'.cell? ⟨w.heap.size,2,none⟩=some (.slice (some ⟨g,o,none⟩) m d)∧w'.cell? ⟨g,o+j*4,none⟩=some (.int .i64 x.k.obj)∧w'.cell? ⟨g,o+j*4+1,none⟩=some (.int .i64 x.k.kind)∧w'.cell? ⟨g,o+j*4+2,none⟩=some (.int .i64 x.k.off)∧w'.cell? ⟨g,o+j*4+3,none⟩=some (.int .i64 x.a)∧Below wr.heap.size wr w':=
       fun w' hb=>⟨(hb.cell (p:=⟨w.heap.size,2,none⟩) hz).trans nn,(hb.cell (p:=⟨g,_,none⟩) hgr).trans k0,(hb.cell (p:=⟨g,_,none⟩) hgr).trans k1,(hb.cell (p:=⟨g,_,none⟩) hgr).trans k2,(hb.cell (p:=⟨g,_,none⟩) hgr).trans k3,hb⟩
      have BD:Below wr.heap.size wr wr.drew:=(Below.refl _ wr).drew
      have hj0:(0:Int)≤(j:Int):=by omega
      have hj1:(j:Int)<(m:Int):=by omega
      have zr:wr.heap.size≤wr.drew.heap.size:=Nat.le_refl _
      have p1:(1:Int)≤2:=by omega
      have p2:(2:Int)≤8:=by omega
      have p3:q≤4398046511104:=by omega
      go_region_held3 (fun w'=>w'.cell? ⟨w.heap.size,2,none⟩=some (.slice (some ⟨g,o,none⟩) m d)∧w'.cell? ⟨g,o+j*4,none⟩=some (.int .i64 x.k.obj)∧w'.cell? ⟨g,o+j*4+1,none⟩=some (.int .i64 x.k.kind)∧w'.cell? ⟨g,o+j*4+2,none⟩=some (.int .i64 x.k.off)∧w'.cell? ⟨g,o+j*4+3,none⟩=some (.int .i64 x.a)∧Below wr.heap.size wr w')
       (first|assumption|exact hS _ BD|exact hS _ bb5|exact hS _ bb6)
       (first
        |(go_at_call 124;have hh:=bb5;refine (q25 A5 n5 c5 _ x.a 2 _ own5.sl p5 p1 p2).mono ?_;rintro e w6 ⟨A6,n6,c6,rfl,own6,hn6,hb6⟩;have bb6:Below wr.heap.size wr w6:=bb5.trans (hb6.mono bb5.size))
        |(go_at_call 126;refine (q88 A' q c' _ x.k _ own.sl.drew p3).mono ?_;rintro e w5 ⟨A5,n5,c5,rfl,own5,hb5⟩;have bb5:Below wr.heap.size wr w5:=BD.trans (hb5.mono zr);have l5:n5=q+9:=(by have:=own5.len;rw[List.length_append,own.len,Kd.bytes_len] at this;omega);have l6:n5≤369+20*j:=(by omega);have p5:n5≤17592186044416:=(by omega);clear l5)
        |fail)
      all_goals
       have e6:bodyK N j++x.k.bytes++dig x.a (2:Int).toNat=bodyK N (j+1):=by
        rw[Hnext.out]
        unfold q0q
        rw[List.append_assoc]
        rfl
       have hn6':n6≤380+20*j:=by omega
       rw[e6] at own6
       have N6:=NN.below bb6 hz
       have B6:=hB.trans (bb6.mono hB.size)
       have o6:=own6.less (show w.heap.size+1≤w5.heap.size from Nat.le_trans hz bb5.size)
       clear hS BD
       have hq6:n6≤360+20*(j+1):=by omega
       go_wp2
       exact⟨⟨j+1,_,_,_,by omega,hq6,by go_num,rfl,o6,N6,B6⟩,by simp[intOf];omega⟩
     ·obtain rfl:m=j:=by omega
      have own1:Own wr (w.heap.size+1) 5 A' q c' N.body:=by rw[←qk7,HlK.out];exact own
      have nn0:=NN.c0
      have nn1:=NN.c1
      have Hwe:=Lib.hid (show writeE N addr gen=sealE (N.head addr gen) N.body by unfold writeE;rw[if_pos Hmay.out])
      have Hwb:=Lib.hid (show writeB N addr gen=sealB (N.head addr gen) N.body by unfold writeB;rw[if_pos Hmay.out])
      clear own
      by_cases hl:0<N.lvl
      ·have Hh:=Lib.hid (show N.head addr gen=⟨4,addr,(n:Int)+(m:Int),N.lvl,gen⟩ by unfold Nd.head;rw[if_pos hl,HlI.out,HlK.out])
       go_wp2_with fail
       have bx:Below wr.heap.size wr (wr.alloc (.cells #[.int .i64 4,.int .i64 addr,.int .i64 ((n:Int)+(m:Int)),.int .i64 N.lvl,.int .i64 gen] 118)):=blA
       refine (q2w ⟨4,addr,(n:Int)+(m:Int),N.lvl,gen⟩ A' q c' N.body _ (own1.sl.below bx)).mono ?_
       rintro e w9 ⟨A9,n9,c9,rfl,s9,hb9⟩
       have B9:=hB.trans ((bx.trans (hb9.mono bx.size)).mono hB.size)
       go_wp2
       go_ret2
       rw[Hwe.out,Hwb.out,Hh.out]
       exact⟨_,_,_,rfl,s9.less (by have:=hB.size;have:=bx.size;omega),B9⟩
      ·have Hh:=Lib.hid (show N.head addr gen=⟨3,addr,(n:Int)+(m:Int),N.lvl,gen⟩ by unfold Nd.head;rw[if_neg hl,HlI.out,HlK.out])
       go_wp2_with fail
       have bx:Below wr.heap.size wr (wr.alloc (.cells #[.int .i64 3,.int .i64 addr,.int .i64 ((n:Int)+(m:Int)),.int .i64 N.lvl,.int .i64 gen] 118)):=blA
       refine (q2w ⟨3,addr,(n:Int)+(m:Int),N.lvl,gen⟩ A' q c' N.body _ (own1.sl.below bx)).mono ?_
       rintro e w9 ⟨A9,n9,c9,rfl,s9,hb9⟩
       have B9:=hB.trans ((bx.trans (hb9.mono bx.size)).mono hB.size)
       go_wp2
       go_ret2
       rw[Hwe.out,Hwb.out,Hh.out]
       exact⟨_,_,_,rfl,s9.less (by have:=hB.size;have:=bx.size;omega),B9⟩
theorem q2z (N:Nd)(addr gen:Int)(A:Option Addr)(n c:Nat)(B:Option Addr)(m d:Nat)(w:World)(hI:Itms w A n c N.items)(hK:Kidl w B m d N.kids)(hn:n≤1000)(hm:m≤1000) :
  Calls Tryz.prog 68 #[.agg #[.int .i64 N.lvl,.slice A n c,.slice B m d],.int .i64 addr,.int .i64 gen] w fun e w'=>∃A' n' c',e=.returned (.tuple #[.slice A' n' c',.int .i64 (writeE N addr gen)])∧Sl w' A' n' c' (writeB N addr gen)∧Below w.heap.size w w':=by
 refine (q4f N addr gen A n c B m d w hI hK hn hm).mono ?_
 rintro e w' ⟨A',n',c',rfl,own,hb⟩
 exact⟨A',n',c',rfl,own.sl,hb⟩
theorem convSB (s:ByteArray)(w:World):(convert 9 30 (.string s)).run Tryz.prog w=.ok (.slice (some ⟨w.heap.size,0,none⟩) s.size (grownCap w s.size 0 5)) (Lib.bytesWorld w 5 s):=
 Lib.run_convert_string_bytes w 9 30 5 s Tryz.underlying9 Tryz.underlying30 Tryz.underlying5
def ttY (l:List UInt8):Bool:=decide (1≤l.length∧1+numL (l.take 1)≤l.length)
def ttS (l:List UInt8):List UInt8:=if ttY l=true then bodyT l 1 else []
def ttR (l:List UInt8):List UInt8:=if ttY l=true then restT l 1 else []
def ttE (l:List UInt8):Int:=if ttY l=true then 0 else 2
theorem qpt (l:List UInt8):(ttS l).length≤l.length:=by
 unfold ttS
 split
 ·exact qgz l 1
 ·simp
theorem qss (l:List UInt8):(ttR l).length≤l.length:=by
 unfold ttR
 split
 ·exact qh0 l 1
 ·simp
theorem q8c (l:List UInt8):(ktR l).length≤l.length:=by
 unfold ktR
 split<;>simp
theorem qk8 (A:Option Addr)(k c:Nat)(l:List UInt8)(S R:List UInt8)(E:Int)(hS:ttS l=S)(hR:ttR l=R)(hE:ttE l=E)(w:World)(h:Sl w A k c l)(hk:k≤17592186044416) :
  Calls Tryz.prog 143 #[.slice A k c] w fun e w'=>∃A2 n2 c2,e=.returned (.tuple #[.string ⟨S.toArray⟩,.slice A2 n2 c2,.int .i64 E])∧Sl w' A2 n2 c2 R∧(∀ad,A2=some ad→w.heap.size≤ad.block)∧Below w.heap.size w w':=by
 subst hS hR hE
 by_cases hw:WholeT l 1
 ·have hy:ttY l=true:=decide_eq_true hw
  unfold ttS ttR ttE
  rw[hy,if_pos rfl,if_pos rfl,if_pos rfl]
  exact q7e A k c l w h hk hw
 ·have hy:ttY l=false:=decide_eq_false hw
  unfold ttS ttR ttE
  rw[hy,if_neg (by simp),if_neg (by simp),if_neg (by simp)]
  refine (q8w A k c l w h hk hw).mono ?_
  rintro e w' ⟨rfl,hb⟩
  exact⟨_,_,_,rfl,q0k _,fun ad h=>(by cases h),hb⟩
def t2Y (l:List UInt8):Bool:=decide (2≤l.length)
def t2V (l:List UInt8):Int:=if t2Y l=true then (numL (l.take 2):Int) else 0
def t2R (l:List UInt8):List UInt8:=if t2Y l=true then l.drop 2 else []
def t2E (l:List UInt8):Int:=if t2Y l=true then 0 else 2
theorem qst (l:List UInt8):(t2R l).length≤l.length:=by
 unfold t2R
 split<;>simp
theorem qk9 (A:Option Addr)(k c:Nat)(l:List UInt8)(V:Int)(R:List UInt8)(E:Int)(hV:t2V l=V)(hR:t2R l=R)(hE:t2E l=E)(w:World)(h:Sl w A k c l)(hk:k≤17592186044416) :
  Calls Tryz.prog 144 #[.slice A k c,.int .i64 2] w fun e w'=>∃A2 n2 c2,e=.returned (.tuple #[.int .i64 V,.slice A2 n2 c2,.int .i64 E])∧Sl w' A2 n2 c2 R∧(∀ad,A2=some ad→w.heap.size≤ad.block)∧Below w.heap.size w w':=by
 subst hV hR hE
 have hl:=h.len
 by_cases hw:2≤k
 ·have hy:t2Y l=true:=decide_eq_true (by omega)
  unfold t2V t2R t2E
  rw[hy,if_pos rfl,if_pos rfl,if_pos rfl]
  refine (q1m A k c l 2 w h hk (by omega) (by omega) (by omega)).mono ?_
  rintro e w' ⟨A',n',c',rfl,own,hb⟩
  exact⟨_,_,_,rfl,own.sl,fun ad h=>(own.block ad h).1,hb⟩
 ·have hy:t2Y l=false:=decide_eq_false (by omega)
  unfold t2V t2R t2E
  rw[hy,if_neg (by simp),if_neg (by simp),if_neg (by simp)]
  refine (q60 A k c 2 w (by omega) (by omega) (by omega)).mono ?_
  rintro e w' ⟨rfl,rfl⟩
  exact⟨_,_,_,rfl,q0k _,fun ad h=>(by cases h),Below.refl _ _⟩
def rnStep (N:Nd)(r:List UInt8):Option (Nd × List UInt8):=
 if ktE r=0 then
  if N.lvl=0 then if ttE (ktR r)=0 then some (⟨N.lvl,N.items++[⟨ktK r,ttS (ktR r)⟩],N.kids⟩,ttR (ktR r)) else none
  else if t2E (ktR r)=0 then some (⟨N.lvl,N.items,N.kids++[⟨ktK r,t2V (ktR r)⟩]⟩,t2R (ktR r)) else none
 else none
def rnTo (l:Int)(body:List UInt8):Nat→Option (Nd × List UInt8)
 |0=>some (⟨l,[],[]⟩,body)
 |j+1=>match rnTo l body j with
  |some (N,r)=>rnStep N r
  |none=>none
theorem q2r (l:Int)(body:List UInt8)(j:Nat)(N:Nd)(r:List UInt8)(h:rnTo l body j=some (N,r)):rnTo l body (j+1)=rnStep N r:=by
 show (match rnTo l body j with|some (N,r)=>rnStep N r|none=>none)=_
 rw[h]
theorem q5s (l:Int)(body:List UInt8)(j k:Nat)(h:rnTo l body j=none)(hk:j≤k):rnTo l body k=none:=by
 induction k with
 |zero=>
  obtain rfl:j=0:=by omega
  exact h
 |succ k ih=>
  rcases (by omega:j≤k∨j=k+1) with h1|rfl
  ·show (match rnTo l body k with|some (N,r)=>rnStep N r|none=>none)=_
   rw[ih h1]
  ·exact h
def q5c (b:List UInt8):Nat:=min (opH b).count.toNat 20
def qb4 (b:List UInt8)(addr gen:Int):Option (Nd × List UInt8)→Option Nd
 |some (N,_)=>if writeE N addr gen=0∧writeB N addr gen=b then some N else none
 |none=>none
def readN (b:List UInt8)(addr:Int):Option Nd:=if opE b=0 then qb4 b addr (opH b).gen (rnTo (opH b).level (opB b) (q5c b)) else none
def rnN (b:List UInt8)(addr:Int):Nd:=(readN b addr).getD ⟨0,[],[]⟩
def rnE (b:List UInt8)(addr:Int):Int:=if (readN b addr).isSome=true then 0 else 3
theorem qqu {b:List UInt8}{addr:Int}(h:readN b addr=none):rnN b addr=⟨0,[],[]⟩∧rnE b addr=3:=by
 unfold rnN rnE
 rw[h]
 exact⟨rfl,rfl⟩
theorem q7m {b:List UInt8}{addr:Int}{N:Nd}(h:readN b addr=some N):rnN b addr=N∧rnE b addr=0:=by
 unfold rnN rnE
 rw[h]
 exact⟨rfl,rfl⟩
theorem qka {b:List UInt8}(h:opE b=0):(opH b).ok=true:=by
 cases hb:okB b
 ·obtain⟨_,_,h3⟩:=q4q hb
  rw[h3] at h;omega
 ·obtain⟨h1,_,_⟩:=q2f hb
  rw[h1]
  exact (of_decide_eq_true hb).2.2.1
end Go.Proofs.YtipejjgodnnkaaaGreatDoor
