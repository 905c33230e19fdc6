/- The reference's small calls: there, step, Fuse, Cached, Read -/
import Derived.Test.YtipejjgodnnkaaaGreatDoorPz19
namespace Go.Proofs.YtipejjgodnnkaaaGreatDoor
open Go Go.RowKit Go.Proofs
set_option maxHeartbeats 2000000
set_option maxRecDepth 100000
section
variable {w:World}{rp ro oc:Nat}{iv:Nat→Value}{vs:Nat→List Value}{S:Nat→Prop}{D:DM}
theorem RLay.c0 (L:RLay w rp ro oc iv vs S D):w.cell? ⟨rp,0,none⟩=some (.slice (some ⟨ro,0,none⟩) D.n oc):=by rw[cell_of_row w rp 0 _ _ _ L.me];rfl
theorem RLay.c1 (L:RLay w rp ro oc iv vs S D):w.cell? ⟨rp,1,none⟩=some (.bool D.off):=by rw[cell_of_row w rp 1 _ _ _ L.me];rfl
theorem RLay.c2 (L:RLay w rp ro oc iv vs S D):w.cell? ⟨rp,2,none⟩=some (.bool D.fused):=by rw[cell_of_row w rp 2 _ _ _ L.me];rfl
theorem RLay.c3 (L:RLay w rp ro oc iv vs S D):w.cell? ⟨rp,3,none⟩=some (.int .i64 D.left):=by rw[cell_of_row w rp 3 _ _ _ L.me];rfl
theorem RLay.c4 (L:RLay w rp ro oc iv vs S D):w.cell? ⟨rp,4,none⟩=some (.int .i64 D.steps):=by rw[cell_of_row w rp 4 _ _ _ L.me];rfl
theorem RLay.fz (L:RLay w rp ro oc iv vs S D)(j:Nat):w.frozen? ⟨rp,j,none⟩=false:=by simp[World.frozen?,L.me]
theorem RLay.off1 (L:RLay w rp ro oc iv vs S D)(b:Bool):RLay (w.setCell ⟨rp,1,none⟩ (.bool b)) rp ro oc iv vs S { D with off:=b }:=
 L.struct b D.fused D.left D.steps L.left (by rw[q0h _ L.me];rfl) fun k _ hn=>Below.heap_setCell _ _ _ _ hn
theorem RLay.fused1 (L:RLay w rp ro oc iv vs S D)(b:Bool):RLay (w.setCell ⟨rp,2,none⟩ (.bool b)) rp ro oc iv vs S { D with fused:=b }:=
 L.struct D.off b D.left D.steps L.left (by rw[q0h _ L.me];rfl) fun k _ hn=>Below.heap_setCell _ _ _ _ hn
theorem RLay.left1 (L:RLay w rp ro oc iv vs S D)(n:Nat)(hn:n≤9223372036854775807){x:Int}(hx:x=(n:Int)):RLay (w.setCell ⟨rp,3,none⟩ (.int .i64 x)) rp ro oc iv vs S { D with left:=n }:=by
 subst hx
 exact L.struct D.off D.fused n D.steps hn (by rw[q0h _ L.me];rfl) fun k _ hn=>Below.heap_setCell _ _ _ _ hn
theorem RLay.steps1 (L:RLay w rp ro oc iv vs S D)(n:Nat){x:Int}(hx:x=(n:Int)):RLay (w.setCell ⟨rp,4,none⟩ (.int .i64 x)) rp ro oc iv vs S { D with steps:=n }:=by
 subst hx
 exact L.struct D.off D.fused D.left n L.left (by rw[q0h _ L.me];rfl) fun k _ hn=>Below.heap_setCell _ _ _ _ hn
theorem RLay.drew (L:RLay w rp ro oc iv vs S D):RLay w.drew rp ro oc iv vs S D:=L.keep fun _ _ _=>rfl
theorem q6b (L:RLay w rp ro oc iv vs S D)(s:Int) :
  Calls Tryz.prog 75 #[.pointer (some ⟨rp,0,none⟩),.int .i64 s] w fun e w'=>e=.returned (.bool (decide (0≤s∧s<(D.n:Int))))∧w=w':=by
 have c0:=L.c0
 go_enter Tryz.func75,Tryz.ntmps75
 by_cases h0:0≤s
 ·by_cases h1:s<(D.n:Int)
  ·go_wp2
   go_ret
   simp[h0,h1]
  ·go_wp2
   go_ret
   simp[h1]
 ·go_wp2
  go_ret
  simp
  intro;omega
theorem qe2 (L:RLay w rp ro oc iv vs S D)(hst:D.steps≤1000000000) :
  Calls Tryz.prog 127 #[.pointer (some ⟨rp,0,none⟩)] w fun e w'=>e=.returned (.int .i64 D.err)∧RLay w' rp ro oc iv vs S D.stepD∧Turn (fun k=>k=rp) w w':=by
 have c1:=L.c1
 have c2:=L.c2
 have c3:=L.c3
 have c4:=L.c4
 have f1:=L.fz 1
 have f3:=L.fz 3
 have f4:=L.fz 4
 have hle:=L.left
 obtain⟨n,dur,cac,off,fused,left,steps,cap⟩:=D
 simp only at c1 c2 c3 c4 hst hle
 cases off with
 |true=>
  rw[show (DM.stepD ⟨n,dur,cac,true,fused,left,steps,cap⟩)=⟨n,dur,cac,true,fused,left,steps,cap⟩ from rfl,show (DM.err ⟨n,dur,cac,true,fused,left,steps,cap⟩)=4 from rfl]
  go_enter Tryz.func127,Tryz.ntmps127
  go_wp2
  go_ret
  exact⟨rfl,L,Turn.refl _ _⟩
 |false=>
  cases fused with
  |true=>
   by_cases h0:left=0
   ·subst h0
    rw[show (DM.stepD ⟨n,dur,cac,false,true,0,steps,cap⟩)=⟨n,dur,cac,true,true,0,steps,cap⟩ from rfl,show (DM.err ⟨n,dur,cac,false,true,0,steps,cap⟩)=4 from rfl]
    go_enter Tryz.func127,Tryz.ntmps127
    go_wp2
    go_ret
    exact⟨rfl,L.off1 true,q0o _ _ _⟩
   ·have hs:(DM.stop ⟨n,dur,cac,false,true,left,steps,cap⟩)=false:=by simp[DM.stop,h0]
    have E1:(DM.stepD ⟨n,dur,cac,false,true,left,steps,cap⟩)=⟨n,dur,cac,false,true,left-1,steps+1,cap⟩:=by simp[DM.stepD,hs]
    have E2:(DM.err ⟨n,dur,cac,false,true,left,steps,cap⟩)=0:=by simp[DM.err,hs]
    rw[E1,E2]
    go_enter Tryz.func127,Tryz.ntmps127
    go_wp2
    go_ret
    exact⟨rfl,(L.left1 (left-1) (by omega) (by omega)).steps1 (steps+1) (by omega),(q0o _ _ _).then (q0o _ _ _)⟩
  |false=>
   rw[show (DM.stepD ⟨n,dur,cac,false,false,left,steps,cap⟩)=⟨n,dur,cac,false,false,left,steps+1,cap⟩ from rfl,show (DM.err ⟨n,dur,cac,false,false,left,steps,cap⟩)=0 from rfl]
   go_enter Tryz.func127,Tryz.ntmps127
   go_wp2
   go_ret
   exact⟨rfl,L.steps1 (steps+1) (by omega),q0o _ _ _⟩
theorem qlz (L:RLay w rp ro oc iv vs S D)(n:Int)(hn:n≤9223372036854775807) :
  Calls Tryz.prog 57 #[.pointer (some ⟨rp,0,none⟩),.int .i64 n] w fun e w'=>e=.returned (.tuple #[])∧RLay w' rp ro oc iv vs S (D.fuse n)∧Turn (fun k=>k=rp) w w':=by
 have c2:=L.c2
 have c3:=L.c3
 have f2:=L.fz 2
 have f3:=L.fz 3
 by_cases h0:0≤n
 ·have hmax:max n 0=n:=by omega
  go_enter Tryz.func57,Tryz.ntmps57
  go_wp2
  go_end0
  exact⟨rfl,by have:=(L.fused1 true).left1 n.toNat (by omega) (x:=n) (by omega);unfold DM.fuse;rw[show decide (0≤n)=true by simpa using h0];exact this,(q0o _ _ _).then (q0o _ _ _)⟩
 ·have hmax:max n 0=0:=by omega
  go_enter Tryz.func57,Tryz.ntmps57
  go_wp2
  go_end0
  exact⟨rfl,by have:=(L.fused1 false).left1 n.toNat (by omega) (x:=0) (by omega);unfold DM.fuse;rw[show decide (0≤n)=false by simpa using h0];exact this,(q0o _ _ _).then (q0o _ _ _)⟩
end
theorem q0y {P:Program}{t e:TypeId}(ht:P.underlying t=some (.slice e))(he:(P.info? e).map (·.size)=some 1)(w:World)(g o n c j:Nat)(hj:j<n) :
  (Instr.indexAt t (.slice (some ⟨g,o,none⟩) n c) (.int .i64 (j:Int))).run P w=.ok (.pointer (some ⟨g,o+j,none⟩)) w:=by
 have hz:(sizeOf e).run P w=.ok 1 w:=by
  obtain⟨i,hi,hs⟩:=Option.map_eq_some_iff.1 he
  simp[sizeOf,typeInfo,hi,hs]
 have ha:(⟨g,o,none⟩:Addr).add j=⟨g,o+j,none⟩:=Addr.add_mid g o j
 simp[Instr.indexAt,asIntOf,run_underlying ht,hz,hj,ha]
theorem S64:(Tryz.prog.info? 67).map (·.size)=some 1:=by kernel_rfl
theorem S35:(Tryz.prog.info? 30).map (·.size)=some 1:=by kernel_rfl
theorem qhj (D:DM)(s:Nat):(D.all s)[(D.all s).length-1]?=some (D.newest s):=by
 unfold DM.all DM.newest
 rw[←List.getLast?_eq_getElem?,List.getLast?_cons,List.getLastD_eq_getLast?]
section
variable {w:World}{rp ro oc:Nat}{iv:Nat→Value}{vs:Nat→List Value}{S:Nat→Prop}{D:DM}
theorem RLay.last (L:RLay w rp ro oc iv vs S D){s:Nat}(hs:s<D.n):∃g o c A d,iv s=.slice (some ⟨g,o,none⟩) (vs s).length c∧(vs s).length≤c∧c≤maxLen∧w.cell? ⟨g,o+((vs s).length-1),none⟩=some (.slice A 256 d)∧
  (vs s)[(vs s).length-1]?=some (.slice A 256 d)∧Sl w A 256 d (D.newest s):=by
 obtain⟨g,o,c,hv,h1,h2,h3,h4⟩:=L.irow s hs
 have hp:=L.vpos hs
 have hk:(vs s).length-1<(vs s).length:=by omega
 have hl:(D.all s)[(vs s).length-1]?=some (D.newest s):=by rw[L.len s hs];exact qhj D s
 have hb:=L.brow s hs _ _ _ (List.getElem?_eq_getElem hk) hl
 obtain⟨A,d,hA,hsl⟩:=hb.sl
 exact⟨g,o,c,A,d,hv,h1,h2,by rw[←hA];exact h3 _ _ (List.getElem?_eq_getElem hk),by rw[←hA];exact List.getElem?_eq_getElem hk,hsl⟩
theorem q8z (L:RLay w rp ro oc iv vs S D)(s:Int) :
  Calls Tryz.prog 82 #[.pointer (some ⟨rp,0,none⟩),.int .i64 s] w fun e w'=>∃A n c,e=.returned (.tuple #[.slice A n c,.int .i64 (D.readE s)])∧Sl w' A n c (D.readL s)∧Below w.heap.size w w':=by
 have c1:=L.c1
 have c0:=L.c0
 unfold DM.readE DM.readL
 cases hoff:D.off with
 |true=>
  rw[hoff] at c1
  go_enter Tryz.func82,Tryz.ntmps82
  go_wp2
  go_ret2
  exact⟨none,0,0,rfl,q0m w,Below.refl _ _⟩
 |false=>
  rw[hoff] at c1
  have H1:=q6b L s
  by_cases hs:0≤s∧s<(D.n:Int)
  ·obtain⟨k,rfl⟩:=Int.eq_ofNat_of_zero_le hs.1
   have hk:k<D.n:=by omega
   rw[show decide (0≤(k:Int)∧(k:Int)<(D.n:Int))=true by simpa using hs] at H1
   rw[if_pos hs,if_pos hs,Int.toNat_natCast]
   simp only[Bool.false_eq_true,if_false]
   obtain⟨g,o,c,A,d,hv,hc1,hc2,hcell,_,hsl⟩:=L.last hk
   have hp:=L.vpos hk
   have hout:=(L.out k hk).1
   rw[hv] at hout
   have hix:=fun w=>q0y (P:=Tryz.prog) Tryz.underlying50 S64 w ro 0 D.n oc k hk
   simp only[Nat.zero_add] at hix
   have hlen:=hsl.len
   generalize hm:(vs k).length=m at *
   have hx2:∀w',(Instr.indexAt 67 (.slice (some ⟨g,o,none⟩) m c) (.int .i64 ((m:Int)-1))).run Tryz.prog w'=.ok (.pointer (some ⟨g,o+(m-1),none⟩)) w':=fun w'=>by
    have:=q0y (P:=Tryz.prog) Tryz.underlying67 S35 w' g o m c (m-1) (by omega)
    rw[show ((m-1:Nat):Int)=(m:Int)-1 by omega] at this
    exact this
   have hmx:m≤9223372036854775807:=by unfold maxLen at hc2;omega
   have hcell2:∀ob:Obj,(w.alloc ob).cell? ⟨g,o+(m-1),none⟩=some (.slice A 256 d):=fun ob=>by
    have:=World.block_lt_of_cell? w _ hcell
    rw[World.cell?_alloc_lt _ _ _ this];exact hcell
   go_enter Tryz.func82,Tryz.ntmps82
   go_wp2_with fail
   refine H1.mono ?_
   rintro e w1 ⟨rfl,rfl⟩
   go_wp2_with (at_builtin;refine q1w _ T22 (by rfl) _ _ (by rfl) w.heap.size w.heap.size (by rfl) (q15 w 5) A 256 d (D.newest k) (by rfl) (hsl.alloc _) (by omega) (by simp) ?_)
   intro A' c' w' hown hb
   have hb:=q2t _ (hb.mono (B':=w.heap.size) (by simp)) (Nat.le_refl _)
   go_wp2_with fail
   go_ret2
   exact⟨A',256,c',rfl,hown.sl,hb⟩
  ·rw[show decide (0≤s∧s<(D.n:Int))=false by simpa using hs] at H1
   rw[if_neg hs,if_neg hs]
   simp only[Bool.false_eq_true,if_false]
   go_enter Tryz.func82,Tryz.ntmps82
   go_wp2_with fail
   refine H1.mono ?_
   rintro e w1 ⟨rfl,rfl⟩
   go_wp2_with fail
   go_ret2
   exact⟨none,0,0,rfl,q0m w,Below.refl _ _⟩
end
theorem qal {w:World}{b:Nat}{c:Array Value}{t:TypeId}(h:w.heap[b]?=some (.cells c t (0,0)))(j:Nat):w.frozen? ⟨b,j,none⟩=false:=by
 unfold World.frozen?
 rw[show (⟨b,j,none⟩:Addr).block=b from rfl,h]
 simp
theorem qpj {P:Program}{t e:TypeId}{z:Value}(ht:P.underlying t=some (.slice e))(he:(P.info? e).map (fun i=>(i.zero,i.size,i.bytes))=some (some z,1,24))(w:World)(v:Value)(vs:List Value)(h:RIRow w v vs)(hn:vs.length≤1000000)
  (a:Addr) (d:Nat) (x:Value) (hx:w.cell? a=some x) (h1:x.oneCell'=true) (hz:z.cells.size=1) (ty:TypeId) :
  ∃v' w',(Builtin.append_ #[t,t] ty #[v,.slice (some a) 1 d]).run P w=.ok v' w'∧RIRow w' v' (vs++[x])∧Turn (fun k=>v.ownBlock=some k) w w'∧(v'.ownBlock=v.ownBlock∨∃g,v'.ownBlock=some g∧w.heap.size≤g):=by
 obtain⟨i,hi,hz0,hz1,hz2⟩:=info_parts he
 obtain⟨g,o,c,rfl,hc1,hc2,h3,h4⟩:=h
 have hnews:∀(j:Nat) u,[x][j]?=some u→w.cell? (a.add j)=some u:=fun j u hu=>by
  rcases j with _|j
  ·have h0:x=u:=by simpa using hu
   rw[←h0]
   simpa [Addr.add] using hx
  ·simp at hu
 by_cases hroom:vs.length+1≤c
 ·have hth:=h4 vs.length (by omega)
  have hs0:∀j,j < [x].length→(w.cell? ⟨g,o+vs.length*i.size+j,none⟩).isSome=true∧w.frozen? ⟨g,o+vs.length*i.size+j,none⟩=false:=fun j hj=>by
   have h0:j=0:=by simpa using hj
   subst h0
   rw[hz1,Nat.mul_one,Nat.add_zero]
   exact hth
  have hrun:=run_append_room_cells (P:=P) (w:=w) t ty e i ht hi g o vs.length c a 1 d [x] (by rw[hz1];rfl) hnews (by intro u hu;rw[List.mem_singleton.1 hu];exact h1) hroom
   (fun j hj=>hs0 j hj |>.1) (fun j hj=>hs0 j hj |>.2)
  rw[hz1,Nat.mul_one] at hrun
  refine⟨_,_,hrun,⟨g,o,c,by simp,by simpa using hroom,hc2,fun j u hu=>?_,World.there_setCells h4 _ _ _⟩,(q0e (S:=fun k=>(some g)=some k) rfl _ _ _),.inl rfl⟩
  by_cases hj:j<vs.length
  ·rw[List.getElem?_append_left hj] at hu
   exact World.rangeAt_setCells_apart h3 g (o+vs.length) [x] (.inr (.inl (Nat.le_refl _))) j u hu
  ·have hj2:j=vs.length:=by
    have:=(List.getElem?_eq_some_iff.1 hu).1
    simp at this;omega
   subst hj2
   rw[List.getElem?_append_right (Nat.le_refl _),Nat.sub_self] at hu
   have:=World.rangeAt_setCells_same w g (o+vs.length) [x] (fun j hj=>by
    have h0:j=0:=by simpa using hj
    subst h0
    rw[Nat.add_zero]
    exact hth) 0 u hu
   simpa using this
 ·have hrun:=run_append_grow (P:=P) w t ty e i z ht hi hz0 ⟨g,o,none⟩ vs.length c vs (by rw[hz1];omega) (fun j u hu=>by rw[Addr.add_mid];exact h3 j u hu) a 1 d [x] (by rw[hz1];rfl) hnews (by omega) (by omega) (growslice_fits (by omega) (by rw[hz2];omega))
  have hge:=grownCap_ge w (vs.length+1) c e
  have hcap:=grownCap_le_maxLen w (vs.length+1) c e (by unfold maxLen;omega)
  have hblk:(w.drew.alloc (.cells (vs.toArray++[x].toArray++Builtin.zeroCells z.cells (grownCap w (vs.length+1) c e-(vs.length+1))) e)).heap[w.heap.size]?=some (.cells (vs.toArray++[x].toArray++Builtin.zeroCells z.cells (grownCap w (vs.length+1) c e-(vs.length+1))) e (0,0)):=heap_alloc_new w.drew _
  refine⟨_,_,hrun,⟨w.heap.size,0,_,by simp,by simpa using hge,hcap,fun j u hu=>?_,fun j hj=>⟨?_,qal hblk _⟩⟩,(Turn.refl _ w).drew.then (q7e _ _ _),.inr ⟨_,rfl,Nat.le_refl _⟩⟩
  ·rw[cell_of_row _ _ _ _ _ _ hblk,Nat.zero_add]
   have hj:j<vs.length+1:=by
    have:=(List.getElem?_eq_some_iff.1 hu).1
    simpa using this
   rw[Array.getElem?_append_left (by simp;omega),←hu]
   simp
  ·rw[cell_of_row _ _ _ _ _ _ hblk,Nat.zero_add]
   rw[Array.getElem?_eq_getElem (by simp[size_zeroCells,hz];omega)];rfl
theorem Q64:(Tryz.prog.info? 30).map (fun i=>(i.zero,i.size,i.bytes))=some (some (.slice none 0 0),1,24):=by kernel_rfl
theorem qpk (w:World)(x:Value)(t:TypeId):RIRow (w.alloc (.cells #[x] t)) (.slice (some ⟨w.heap.size,0,none⟩) 1 1) [x]:=by
 have hb:(w.alloc (.cells #[x] t)).heap[w.heap.size]?=some (.cells #[x] t (0,0)):=heap_alloc_new w _
 refine⟨w.heap.size,0,1,rfl,Nat.le_refl _,by unfold maxLen;omega,fun j u hu=>?_,fun j hj=>?_⟩
 ·rw[cell_of_row _ _ _ _ _ _ hb,Nat.zero_add];simpa using hu
 ·have h0:j=0:=by omega
  subst h0
  exact⟨by rw[cell_of_row _ _ _ _ _ _ hb];rfl,qal hb _⟩
theorem qpl {w:World}{base:Nat}{A:Option Addr}{c:Nat}{l:List UInt8}(h:Own w base 5 A 256 c l):BRow w (.slice A 256 c) l∧∀g,(Value.slice A 256 c).ownBlock=some g→base≤g:=by
 have hl:=h.len
 rcases h.2 with⟨hv,h0⟩|⟨g,cap,cur,hv,h1,hg,h2,h3,h4,h5⟩
 ·omega
 ·injection hv with hA _ hc
  subst hA;subst hc
  refine⟨⟨g,0,_,rfl,h2,h3,hl,fun j u hu=>?_,fun j hj=>?_⟩,fun g' e=>by cases e;exact h1⟩
  ·rw[cell_of_row _ _ _ _ _ _ hg,Nat.zero_add]
   have hj:j<256:=by have:=(List.getElem?_eq_some_iff.1 hu).1;rw[q1b] at this;omega
   have h6:(cur.toList.take (256*1))[j]?=(l.map bv)[j]?:=by rw[h5]
   rw[List.getElem?_take_of_lt (by omega),Array.getElem?_toList] at h6
   rw[h6];exact hu
  ·refine⟨?_,qal hg _⟩
   rw[cell_of_row _ _ _ _ _ _ hg,Nat.zero_add,Array.getElem?_eq_getElem (by omega)];rfl
section
def litE (w:World):World:=w.alloc (.cells #[] 5)
def litS (w:World)(v:Value):World:=w.alloc (.cells #[v] 30)
section
variable {w:World}{rp ro oc:Nat}{iv:Nat→Value}{vs:Nat→List Value}{S:Nat→Prop}{D:DM}
theorem RLay.append (L:RLay w rp ro oc iv vs S D)(s:Nat)(hs:s<D.n)(B:Option Addr)(d:Nat)(x:List UInt8)(hb:Sl w B 256 d x)(hcl:(D.cac s).length≤999999)(ty ty2:TypeId) :
  ∃A c wB v1 wD,(Builtin.append_ #[30,30] ty #[.slice (some ⟨w.heap.size,0,none⟩) 0 0,.slice B 256 d]).run Tryz.prog (litE w)=.ok (.slice A 256 c) wB∧
   (Builtin.append_ #[67,67] ty2 #[iv s,.slice (some ⟨wB.heap.size,0,none⟩) 1 1]).run Tryz.prog (litS wB (.slice A 256 c))=.ok v1 wD∧
   (∀k,k<w.heap.size→(litE w).heap[k]?=w.heap[k]?)∧(∀k,k<w.heap.size→wB.heap[k]?=w.heap[k]?)∧(∀k,k<w.heap.size→(litS wB (.slice A 256 c)).heap[k]?=w.heap[k]?)∧(wD.heap[rp]?=w.heap[rp]?∧wD.heap[ro]?=w.heap[ro]?)∧
   RLay (wD.setCell ⟨ro,s,none⟩ v1) rp ro oc (upd iv s v1) (upd vs s (vs s++[.slice A 256 c])) (fun k=>S k∨w.heap.size≤k) { D with cac:=upd D.cac s (D.cac s++[x]) }∧Turn S w (wD.setCell ⟨ro,s,none⟩ v1):=by
 have hbA:Below w.heap.size w (litE w):=blA
 obtain⟨A,c,wB,hrun1,hown,hbB⟩:=q5g (P:=Tryz.prog) (litE w) T22 ty w.heap.size w.heap.size (q15 w 5) B 256 d x (hb.alloc _) (by omega) (by simp[litE])
 have hsA:(litE w).heap.size=w.heap.size+1:=by simp[litE]
 have hbB':Below w.heap.size w wB:=hbA.trans (hbB.mono (by omega))
 have hsB:=hbB.size
 have hbC:Below wB.heap.size wB (litS wB (.slice A 256 c)):=blA
 have hsC:(litS wB (.slice A 256 c)).heap.size=wB.heap.size+1:=by simp[litS]
 have hbC':Below w.heap.size w (litS wB (.slice A 256 c)):=hbB'.trans (hbC.mono (by omega))
 obtain⟨hbr,hbg⟩:=qpl hown
 have hblt:∀g,(Value.slice A 256 c).ownBlock=some g→g<wB.heap.size:=fun g hg=>hbr.lt hg
 have hir:=(L.irow s hs).keep (w':=litS wB (.slice A 256 c)) fun g hg=>hbC'.block g (L.ilt hs hg)
 have hlen:=L.len s hs
 obtain⟨v1,wD,hrun2,hir2,hT,hat⟩:=qpj Tryz.underlying67 Q64 (litS wB (.slice A 256 c)) (iv s) (vs s) hir (by rw[hlen];simp[DM.all];omega) ⟨wB.heap.size,0,none⟩ 1 (.slice A 256 c)
  (q4c wB #[.slice A 256 c] 30 0) rfl rfl ty2
 have hsD:=hT.size
 have hrolt:=L.rolt
 have hrplt:=q01 L.me
 have old:∀k,k<w.heap.size→(iv s).ownBlock≠some k→wD.heap[k]?=w.heap[k]?:=fun k hk hn=>(hT.block k (by omega) hn).trans (hbC'.block k hk)
 have hro:wD.heap[ro]?=w.heap[ro]?:=old ro hrolt fun e=>(L.ne.2.1 s hs ro e).2 rfl
 have hrp:wD.heap[rp]?=w.heap[rp]?:=old rp hrplt fun e=>(L.ne.2.1 s hs rp e).1 rfl
 have hTE:=q0d (S:=fun k=>k=ro) (w:=wD) (a:=⟨ro,s,none⟩) v1 rfl
 have hcell:∀z,z<D.n→wD.cell? ⟨ro,z,none⟩=some (iv z):=fun z hz=>(World.cell?_of_block (w:=w) (w':=wD) (a:=⟨ro,z,none⟩) hro).trans (L.out z hz).1
 have hivlt:∀g,(iv s).ownBlock=some g→g<w.heap.size:=fun g hg=>L.ilt hs hg
 have hv1:∀g,v1.ownBlock=some g→g≠ro:=fun g hg=>by
  rcases hat with e|⟨g',e,h⟩
  ·exact (L.ne.2.1 s hs g (e▸hg)).2
  ·rw[e] at hg;cases hg;omega
 refine⟨A,c,wB,v1,wD,hrun1,hrun2,fun k hk=>hbA.block k hk,fun k hk=>hbB'.block k hk,fun k hk=>hbC'.block k hk,⟨hrp,hro⟩,?_,⟨?_,?_,?_,?_,fun k hk hn=>?_⟩⟩
 ·have hset:=L.setRow s hs (w':=wD.setCell ⟨ro,s,none⟩ v1) (S':=fun k=>S k∨w.heap.size≤k) v1 (vs s++[.slice A 256 c]) (D.dur s) (D.cac s++[x]) (fun k _ h=>.inl h)
   (fun k hk hn hv=>(hTE.block k (by omega) hn).trans (old k hk hv)) (fun z hz=>⟨?_,?_⟩) (hir2.keep fun g hg=>?_) (by rw[List.length_append,hlen];simp[DM.all]) (fun i v l hv hl=>?_) ?_ (fun v hv g hg=>?_) (fun i i' v v' g hv hv' hg hg'=>?_)
  ·rw[q6u] at hset;exact hset
  ·by_cases hzs:z=s
   ·subst hzs;rw[World.cell?_setCell_same _ _ _ (hcell z hz),q0b]
   ·rw[World.cell?_setCell_other _ _ _ _ (fun e=>hzs (by injection e with _ e2;exact e2.symm)),q05 _ _ hzs];exact hcell z hz
  ·rw[World.frozen?_setCell]
   exact (World.frozen?_of_block (w:=w) (w':=wD) (a:=⟨ro,z,none⟩) hro).trans (L.out z hz).2
  ·have hglt:g<wD.heap.size:=hir2.lt (by simp) hg
   exact hTE.block g hglt (hv1 g hg)
  ·by_cases hi:i<(vs s).length
   ·rw[List.getElem?_append_left hi] at hv
    have hl':(D.all s)[i]?=some l:=by
     rw[←hl,show (D.dur s::(D.cac s++[x]))=D.all s++[x] from rfl,List.getElem?_append_left (by omega)]
    have hm:=List.mem_of_getElem? hv
    refine (L.brow s hs i v l hv hl').keep fun g hg=>?_
    obtain⟨a,b,e⟩:=L.ne.2.2 s hs v hm g hg
    exact (hTE.block g (by have:=L.blt hs hm hg;omega) b).trans (old g (L.blt hs hm hg) (e s hs))
   ·have hi2:i=(vs s).length:=by have:=(List.getElem?_eq_some_iff.1 hv).1;simp at this;omega
    subst hi2
    rw[List.getElem?_append_right (Nat.le_refl _),Nat.sub_self] at hv
    obtain rfl:Value.slice A 256 c=v:=by simpa using hv
    have hl':x=l:=by
     rw[show (D.dur s::(D.cac s++[x]))=D.all s++[x] from rfl,hlen,List.getElem?_append_right (Nat.le_refl _),Nat.sub_self] at hl
     simpa using hl
    subst hl'
    refine hbr.keep fun g hg=>?_
    have h1:=hbg g hg
    have h2:=hblt g hg
    exact (hTE.block g (by omega) (by omega)).trans ((hT.block g (by omega) (fun e=>by have:=hivlt g e;omega)).trans (hbC.block g h2))
  ·rcases hat with e|⟨g,e,h⟩
   ·exact .inl e
   ·exact .inr ⟨g,e,by omega,.inr (by omega)⟩
  ·rcases List.mem_append.1 hv with h|h
   ·exact .inl h
   ·rw[List.mem_singleton.1 h] at hg
    have h1:=hbg g hg
    have h2:=hblt g hg
    refine .inr ⟨h1,.inr h1,fun e=>?_⟩
    rcases hat with e2|⟨g',e2,h3⟩
    ·rw[e2] at e;have:=hivlt g e;omega
    ·rw[e2] at e;cases e;omega
  ·by_cases hi:i<(vs s).length<;>by_cases hi':i'<(vs s).length
   ·rw[List.getElem?_append_left hi] at hv
    rw[List.getElem?_append_left hi'] at hv'
    exact (L.bsep s s i i' v v' g hs hs hv hv' hg hg').2
   ·exfalso
    rw[List.getElem?_append_left hi] at hv
    have hi2:i'=(vs s).length:=by have:=(List.getElem?_eq_some_iff.1 hv').1;simp at this;omega
    rw[hi2,List.getElem?_append_right (Nat.le_refl _),Nat.sub_self] at hv'
    obtain rfl:Value.slice A 256 c=v':=by simpa using hv'
    have:=L.blt hs (List.mem_of_getElem? hv) hg
    have:=hbg g hg'
    omega
   ·exfalso
    rw[List.getElem?_append_left hi'] at hv'
    have hi2:i=(vs s).length:=by have:=(List.getElem?_eq_some_iff.1 hv).1;simp at this;omega
    rw[hi2,List.getElem?_append_right (Nat.le_refl _),Nat.sub_self] at hv
    obtain rfl:Value.slice A 256 c=v:=by simpa using hv
    have:=L.blt hs (List.mem_of_getElem? hv') hg'
    have:=hbg g hg
    omega
   ·have h1:=(List.getElem?_eq_some_iff.1 hv).1
    have h2:=(List.getElem?_eq_some_iff.1 hv').1
    simp at h1 h2
    omega
 ·exact (hT.os.trans (hbC'.os))
 ·exact (hT.tape.trans (hbC'.tape))
 ·exact (hT.output.trans (hbC'.output))
 ·have:(wD.setCell ⟨ro,s,none⟩ v1).heap.size=wD.heap.size:=by simp[World.setCell]
  omega
 ·have hkr:k≠ro:=fun e=>hn (e▸L.inS.2.1)
  exact (hTE.block k (by omega) hkr).trans (old k hk fun e=>hn (L.inS.2.2.1 s hs k e))
theorem RLay.apart (L:RLay w rp ro oc iv vs S D){g o:Nat}{x:List UInt8}(hx:0<x.length)(h:w.rangeAt g o (bvs x)):g≠rp:=fun e=>by
 subst e
 have hc:=h 0 (bv x[0]) (by simp[bvs,hx])
 rw[cell_of_row w g (o+0) _ _ _ L.me,Nat.add_zero] at hc
 rcases o with _|_|_|_|_|o<;>simp[bv] at hc
end
def lE (n:Nat)(p:Array (Nat × Value)):Sem Value:=Instr.buildSlice 30 n p
def lS (n:Nat)(p:Array (Nat × Value)):Sem Value:=Instr.buildSlice 67 n p
def apR (ts:Array TypeId)(ty:TypeId)(args:Array Value):Sem Value:=Builtin.append_ ts ty args
theorem qsl (n:Nat)(p:Array (Nat × Value)):Instr.buildSlice 30 n p=lE n p:=rfl
theorem qg0 (n:Nat)(p:Array (Nat × Value)):Instr.buildSlice 67 n p=lS n p:=rfl
theorem qhk (ts:Array TypeId)(ty:TypeId)(args:Array Value):Builtin.append_ ts ty args=apR ts ty args:=rfl
theorem qup (w:World):(lE 0 #[]).run Tryz.prog w=.ok (.slice (some ⟨w.heap.size,0,none⟩) 0 0) (litE w):=by
 obtain⟨i,hi,hz0,hz1,hz2⟩:=info_parts T22.info
 simp[lE,Instr.buildSlice,run_underlying T22.sl,sizeOf,typeInfo,hi,newRow,litE,Instr.fill]
 exact congrArg (fun a=>w.alloc (.cells a 5)) (Array.eq_empty_of_size_eq_zero (by simp))
theorem qm0 (w:World)(v:Value)(hv:v.cells=#[v]):(lS 1 #[(0,v)]).run Tryz.prog w=.ok (.slice (some ⟨w.heap.size,0,none⟩) 1 1) (litS w v):=by
 obtain⟨i,hi,hz0,hz1,hz2⟩:=info_parts Q64
 refine run_buildSlice w _ _ 1 _ #[v] i _ Tryz.underlying67 hi hz0 (by rw[hz1];omega) (by rw[hz1];omega) ?_
 rw[hz1]
 have h:=Great.fill_whole (s:=1) (by omega) [v] ((Array.range (1*1)).map ((Value.slice none 0 0).cells[· % (Value.slice none 0 0).cells.size]!)) (by intro u hu;rw[List.mem_singleton.1 hu,hv];rfl) (by rw[Array.size_map,Array.size_range];rfl)
 refine Eq.trans ?_ (h.trans ?_)
 ·simp only[List.zipIdx_cons,List.zipIdx_nil,List.map_cons,List.map_nil]
 ·simp[hv]
attribute [local go_sem ↓] qsl qg0 qhk
theorem qam {w:World}{rp:Nat}{S:Nat→Prop}{D:DM}(L0:RDrv w rp S D)(s:Int)(A:Option Addr)(n c:Nat)(x:List UInt8)(h:Sl w A n c x)(hst:D.steps≤1000000000)(hcl:∀k,(D.cac k).length≤999999) :
  Calls Tryz.prog 69 #[.pointer (some ⟨rp,0,none⟩),.int .i64 s,.slice A n c] w fun e w'=>e=.returned (.int .i64 (D.writeE s x))∧RDrv w' rp (fun k=>S k∨w.heap.size≤k) (D.writeD s x)∧Turn S w w':=by
 obtain⟨ro,oc,iv,vs,L⟩:=L0
 have up:∀{w':World} {iv' vs' D'},RLay w' rp ro oc iv' vs' S D'→RDrv w' rp (fun k=>S k∨w.heap.size≤k) D':=fun L'=>⟨ro,oc,_,_,L'.mono fun _ _ h=>.inl h⟩
 have hn:=h.len
 have hsp:∀k,k=rp→S k:=fun k e=>e▸L.inS.1
 have H1:=q6b L s
 by_cases hs:0≤s∧s<(D.n:Int)
 ·rw[show decide (0≤s∧s<(D.n:Int))=true by simpa using hs] at H1
  by_cases hx:x.length=256
  ·have hbad:D.bad s x=false:=by simp[DM.bad,hs,hx]
   unfold DM.writeE DM.writeD
   rw[hbad]
   simp only[Bool.false_eq_true,if_false]
   obtain⟨k,rfl⟩:=Int.eq_ofNat_of_zero_le hs.1
   have hk:k<D.n:=by omega
   rw[Int.toNat_natCast]
   obtain rfl:n=256:=by omega
   obtain⟨g,o,rfl,hgl,hr⟩:=qij h (by omega)
   have hap:=L.apart (by omega) hr
   have H2:=qe2 L hst
   unfold DM.err at H2 ⊢
   cases hstop:D.stop with
   |true=>
    rw[hstop] at H2
    go_enter Tryz.func69,Tryz.ntmps69
    go_wp2_with fail
    refine H1.mono ?_
    rintro e w1 ⟨rfl,rfl⟩
    go_wp2_with fail
    refine H2.mono ?_
    rintro e w1 ⟨rfl,L1,T1⟩
    go_wp2_with fail
    go_ret
    exact⟨rfl,up L1,T1.mono hsp⟩
   |false=>
    rw[hstop] at H2
    go_enter Tryz.func69,Tryz.ntmps69
    go_wp2_with fail
    refine H1.mono ?_
    rintro e w1 ⟨rfl,rfl⟩
    go_wp2_with fail
    refine H2.mono ?_
    rintro e w1 ⟨rfl,L1,T1⟩
    have hb1:Sl w1.drew (some ⟨g,o,none⟩) 256 c x:=by
     have h1:=qcp (w:=w1.drew) (q27 hr (T1.block g hgl hap)) (by have:=T1.size;show g<w1.heap.size;omega) (c:=c) (by have:=h.cap;omega) h.max
     rw[hx] at h1;exact h1
    have LD:=L1.drew
    obtain⟨A1,c1,wB,v1,wD,hap1,hap2,kA,kB,kC,⟨kD1,kD2⟩,LE,TE⟩:=LD.append k hk (some ⟨g,o,none⟩) c x hb1 (hcl k) 30 67
    have p0:=LD.c0
    have hp:rp<w1.drew.heap.size:=q01 LD.me
    have ho:ro<w1.drew.heap.size:=LD.rolt
    have q0:=(LD.out k hk).1
    have pA:=(World.cell?_of_block (w:=w1.drew) (a:=⟨rp,0,none⟩) (kA rp hp)).trans p0
    have pB:=(World.cell?_of_block (w:=w1.drew) (a:=⟨rp,0,none⟩) (kB rp hp)).trans p0
    have pC:=(World.cell?_of_block (w:=w1.drew) (a:=⟨rp,0,none⟩) (kC rp hp)).trans p0
    have pD:=(World.cell?_of_block (w:=w1.drew) (a:=⟨rp,0,none⟩) kD1).trans p0
    have qA:=(World.cell?_of_block (w:=w1.drew) (a:=⟨ro,k,none⟩) (kA ro ho)).trans q0
    have qB:=(World.cell?_of_block (w:=w1.drew) (a:=⟨ro,k,none⟩) (kB ro ho)).trans q0
    have qC:=(World.cell?_of_block (w:=w1.drew) (a:=⟨ro,k,none⟩) (kC ro ho)).trans q0
    have qD:=(World.cell?_of_block (w:=w1.drew) (a:=⟨ro,k,none⟩) kD2).trans q0
    have fD:=(World.frozen?_of_block (w:=w1.drew) (a:=⟨ro,k,none⟩) kD2).trans (LD.out k hk).2
    have hix:∀w',(Instr.indexAt 50 (.slice (some ⟨ro,0,none⟩) D.stepD.n oc) (.int .i64 (k:Int))).run Tryz.prog w'=.ok (.pointer (some ⟨ro,k,none⟩)) w':=fun w'=>by
     have:=q0y (P:=Tryz.prog) Tryz.underlying50 S64 w' ro 0 D.stepD.n oc k hk
     simpa only[Nat.zero_add] using this
    have hE:(lE 0 #[]).run Tryz.prog w1.drew=.ok (.slice (some ⟨w1.heap.size,0,none⟩) 0 0) (litE w1.drew):=qup w1.drew
    have hS:=qm0 wB (.slice A1 256 c1) rfl
    have hap1:(apR #[30,30] 30 #[.slice (some ⟨w1.heap.size,0,none⟩) 0 0,.slice (some ⟨g,o,none⟩) 256 c]).run Tryz.prog (litE w1.drew)=.ok (.slice A1 256 c1) wB:=hap1
    have hap2:(apR #[67,67] 67 #[iv k,.slice (some ⟨wB.heap.size,0,none⟩) 1 1]).run Tryz.prog (litS wB (.slice A1 256 c1))=.ok v1 wD:=hap2
    have hzz:=T1.size
    have hone:v1.oneCell'=true:=by
     have hI:=LE.irow k hk
     rw[q0b] at hI
     obtain⟨_,_,_,e,_⟩:=hI
     rw[e];rfl
    obtain⟨gv,ov,cv,hvv,_⟩:∃gv ov cv,v1=Value.slice (some ⟨gv,ov,none⟩) (vs k++[Value.slice A1 256 c1]).length cv∧True:=by
     have hI:=LE.irow k hk
     rw[q0b,q0b] at hI
     obtain⟨a,b,e,h,_⟩:=hI
     exact⟨a,b,e,h,trivial⟩
    subst hvv
    generalize hlv:(vs k++[Value.slice A1 256 c1]).length=lv at *
    clear kA kB kC kD1 kD2 hp ho hone hlv
    go_wp2_with fail
    go_region
    all_goals (go_wp2_with fail;go_ret;exact⟨rfl,⟨ro,oc,_,_,LE.mono fun z _ hz=>hz.imp id fun hz=>by simp at hz;omega⟩,((T1.mono hsp).drew).then TE⟩)
  ·have hbad:D.bad s x=true:=by simp[DM.bad,hx]
   unfold DM.writeE DM.writeD
   rw[hbad]
   have hn2:¬(n:Int)=256:=by omega
   go_enter Tryz.func69,Tryz.ntmps69
   go_wp2_with fail
   refine H1.mono ?_
   rintro e w1 ⟨rfl,rfl⟩
   go_wp2_with fail
   go_ret
   exact⟨rfl,up L,Turn.refl _ _⟩
 ·rw[show decide (0≤s∧s<(D.n:Int))=false by simpa using hs] at H1
  have hbad:D.bad s x=true:=by simp[DM.bad,hs]
  unfold DM.writeE DM.writeD
  rw[hbad]
  go_enter Tryz.func69,Tryz.ntmps69
  go_wp2_with fail
  refine H1.mono ?_
  rintro e w1 ⟨rfl,rfl⟩
  go_wp2_with fail
  go_ret
  exact⟨rfl,up L,Turn.refl _ _⟩
end
end Go.Proofs.YtipejjgodnnkaaaGreatDoor
