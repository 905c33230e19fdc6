/- Superblocks: the reference's Read -/
import Derived.Test.YtipejjgodnnkaaaGreatDoorPm21
import Derived.Test.YtipejjgodnnkaaaGreatDoorPm24
namespace Go.Proofs.YtipejjgodnnkaaaGreatDoor
open Go Go.RowKit Go.Proofs
set_option maxHeartbeats 4000000
set_option maxRecDepth 100000
section
theorem rctake {l0:List UInt8}(p m n:Nat){A:Option Addr}{c:Nat}{w:World}(h:Sl w A n c (l0.drop p))(wd:Int)(hw:wd=(m:Int))(h1:1≤m)(h7:m≤7)(hn:m≤n)(hn2:n≤100000) :
  Calls Tryz.prog 144 #[.slice A n c,.int .i64 wd] w fun e w'=>∃A' n' c',e=.returned (.tuple #[.int .i64 (gN l0 p m),.slice A' n' c',.int .i64 0])∧Own w' w.heap.size 5 A' n' c' (l0.drop (p+m))∧(n'+m≤n∧n≤n'+m)∧Below w.heap.size w w':=by
 refine (q1m A n c _ wd w h (by omega) (by omega) (by omega) (by omega)).mono ?_
 rintro e w' ⟨A',n',c',rfl,own,hb⟩
 subst hw
 rw[Int.toNat_natCast,List.drop_drop] at own
 rw[Int.toNat_natCast]
 have hk:=own.len
 have hl:=h.len
 rw[List.length_drop] at hk hl
 exact⟨A',n',c',rfl,own,⟨by omega,by omega⟩,hb⟩
theorem qik {α:Type}(L C:List α)(o j:Nat)(x:α)(hC:∀i,i<C.length→L[o+i]?=C[i]?)(hj:j<C.length)(hl:o+C.length≤L.length):splice L o (C.set j x)=L.set (o+j) x:=by
 unfold splice
 refine List.ext_getElem? fun i=>?_
 rw[List.getElem?_set]
 by_cases h1:i<o
 ·rw[List.getElem?_append_left (by simp;omega),List.getElem?_take_of_lt h1,if_neg (by omega)]
 ·rw[List.getElem?_append_right (by simp;omega)]
  have e1:(L.take o).length=o:=by simp;omega
  rw[e1]
  by_cases h2:i-o<C.length
  ·rw[List.getElem?_append_left (by simpa using h2),List.getElem?_set]
   by_cases h3:j=i-o
   ·subst h3
    have h4:i<L.length:=by omega
    simp[show o+(i-o)=i by omega,h2,h4]
   ·rw[if_neg h3,if_neg (by omega),←hC (i-o) h2,show o+(i-o)=i by omega]
  ·rw[List.getElem?_append_right (by simpa using h2),List.length_set,List.getElem?_drop,if_neg (by omega)]
   congr 1
   omega
theorem SB.setF {w:World}{b:Nat}{S:Sp}(H:SB w b S){k:Nat}(hk:k<8)(j:Nat)(hj:j<4)(x:Value)(v:Vl)(hv:v.vs=(S.at_ k).vs.set j x):SB (w.setCell ⟨b,3+k*4+j,none⟩ x) b (S.setV k v):=by
 obtain⟨t,H⟩:=H
 refine⟨t,(heap_setCell_same w b (3+k*4+j) _ t x H).trans ?_⟩
 have e:(S.setV k v).vs=S.vs.set (3+k*4+j) x:=by
  rw[S.vs_set hk,hv,qik _ _ _ _ _ (fun i hi=>?_) (by rw[vs_len];exact hj) (by rw[S.vs_len,vs_len];omega),Nat.mul_comm]
  have hi4:i<(S.at_ k).vs.length:=hi
  rw[List.getElem?_eq_getElem hi4]
  exact S.cell hk (List.getElem?_eq_getElem hi4)
 rw[e]
 simp
theorem ql0 (S:Sp){k:Nat}(hk:k<8)(v:Vl):(S.setV k v).at_ k=v:=by
 have h:=(S.setV k v).get hk
 have h2:(S.setV k v).vols[k]?=some v:=List.getElem?_set_self (by rw[S.len];exact hk)
 rw[h] at h2
 exact Option.some.inj h2
theorem ql1 (S:Sp)(k:Nat)(u v:Vl):(S.setV k u).setV k v=S.setV k v:=Sp.ext' rfl rfl rfl (List.set_set ..)
theorem SB.setG {w:World}{b:Nat}{S:Sp}{k:Nat}{u:Vl}(H:SB w b (S.setV k u))(hk:k<8)(j:Nat)(hj:j<4)(x:Value)(v:Vl)(hv:v.vs=u.vs.set j x):SB (w.setCell ⟨b,3+k*4+j,none⟩ x) b (S.setV k v):=by
 have:=H.setF hk j hj x v (by rw[ql0 _ hk];exact hv)
 rwa [ql1] at this
theorem ql2 (g:Int)(l:List UInt8):rfTo g l 0=sp0 g (gN l 0 2:Int) (gN l 2 2:Int):=rfl
theorem ql3 (g:Int)(l:List UInt8){k:Nat}(_hk:k<8):(rfTo g l k).setV k (rfV (l.drop (4+18*k)))=rfTo g l (k+1):=by
 refine Sp.ext' rfl rfl rfl ?_
 show (((List.range 8).map (fun i=>if i<k then rfV (l.drop (4+18*i)) else Vl.zero)).set k (rfV (l.drop (4+18*k))))=(List.range 8).map (fun i=>if i<k+1 then rfV (l.drop (4+18*i)) else Vl.zero)
 refine List.ext_getElem (by simp) fun i h1 h2=>?_
 have hi:i<8:=by simpa using h2
 rw[List.getElem_set]
 by_cases h:k=i
 ·subst h
  simp
 ·rw[if_neg h]
  simp only[List.getElem_map,List.getElem_range]
  by_cases h3:i<k
  ·rw[if_pos h3,if_pos (by omega)]
  ·rw[if_neg h3,if_neg (by omega)]
theorem ql4 (g:Int)(l:List UInt8):(rfTo g l 8).fine:=fun k hk=>by
 have h:=(rfTo g l 8).get hk
 have h2:(rfTo g l 8).vols[k]?=some (if k<8 then rfV (l.drop (4+18*k)) else Vl.zero):=by
  show ((List.range 8).map (fun i=>if i<8 then rfV (l.drop (4+18*i)) else Vl.zero))[k]?=_
  rw[List.getElem?_map,List.getElem?_range hk]
  rfl
 rw[h,if_pos hk] at h2
 rw[Option.some.inj h2]
 have:=qg8 (l.drop (4+18*k))
 unfold maxLen
 show (rdN _).size≤_
 omega
def q77 (A:Option Addr)(n c:Nat)(l:List UInt8)(slot:Int)(w:World):Prop:=
  Calls Tryz.prog 177 #[.slice A n c,.int .i64 slot] w fun e w'=>e=.returned (.tuple #[.agg (srS l slot).vs.toArray,.int .i64 (srE l slot)])∧Below w.heap.size w w'
attribute [local go_sem ↓] q12 q3j q1s q4u qbe
theorem q78 (A:Option Addr)(n c:Nat)(l:List UInt8)(slot:Int)(w:World)(hs:Sl w A n c l):q77 A n c l slot w:=by
 unfold q77
 have hal:=q1t true
 have hbd:=q7i
 have hbg:=qjr (opH l).gen
 have Z1:=SB.new w Sp.zero 56
 have b1:Below w.heap.size w (w.alloc (.cells Sp.zero.vs.toArray 56)):=blA
 go_enter Tryz.func177,Tryz.ntmps177
 go_wp2_with fail
 generalize w.alloc (.cells Sp.zero.vs.toArray 56)=w1 at Z1 b1 ⊢
 refine (q41 A n c l w1 (hs.below b1)).mono ?_
 rintro e w3 ⟨A3,n3,c3,rfl,own3,hb3⟩
 have Z3:=Z1.below hb3 Z1.lt
 have B3:=b1.trans (hb3.mono b1.size)
 have HZ:=HB.zero w3 118
 have hz3:w3.heap.size<(w3.alloc (.cells #[.int .i64 0,.int .i64 0,.int .i64 0,.int .i64 0,.int .i64 0] 118)).heap.size:=by simp
 have b3:Below w3.heap.size w3 (w3.alloc (.cells #[.int .i64 0,.int .i64 0,.int .i64 0,.int .i64 0,.int .i64 0] 118)):=blA
 obtain⟨o,ho⟩:∃o,okB l=o:=⟨_,rfl⟩
 cases o
 ·obtain⟨s1,s2⟩:=q8n (l:=l) (slot:=slot) (by unfold srOk;rw[ho];rfl)
  have hE:=(q4q ho).2.2
  rw[hE]
  go_wp2_with (first
   |(refine q08 rfl _ _ rfl w3.heap.size rfl (opH l) _ rfl HZ hz3 ?_;intro w4 hr4 hb4 T4;have B4:=B3.trans ((b3.trans (hb4 _ (Nat.le_refl _))).mono B3.size);have Z4:=Z3.below (b3.trans (hb4 _ (Nat.le_refl _))) Z3.lt)
   |(refine q03 rfl _ _ rfl w.heap.size rfl Sp.zero Sp.zero rfl Z4 ?_;intro w9 H9 hb9 T9)
   |fail)
  refine bodyPost_ret (q0t Tryz.results177 rfl (q17 H9)) rfl ?_
  rw[s1,s2]
  exact⟨rfl,B4.trans (hb9 _ (Nat.le_refl _))⟩
 ·have hE:=(q2f ho).2.2
  rw[hE]
  have hB:opB l=l.drop 20:=(q2f ho).2.1
  have hlen:=qgp ho
  obtain⟨lb,hlb⟩:∃lb,opB l=lb:=⟨_,rfl⟩
  have hll:lb.length=236:=by rw[←hlb,hB,List.length_drop,hlen]
  have HLB:=Lib.hid hlb
  rw[hlb] at own3
  obtain⟨gg,hgg⟩:∃gg,(opH l).gen=gg:=⟨_,rfl⟩
  have HG:=Lib.hid hgg
  rw[hgg] at hbg
  clear hB hlb
  go_wp2_with (first
   |(refine q08 rfl _ _ rfl w3.heap.size rfl (opH l) _ rfl HZ hz3 ?_;intro w4 hr4 hb4 T4;have bb4:=b3.trans (hb4 _ (Nat.le_refl _));have B4:=B3.trans (bb4.mono B3.size);have Z4:=Z3.below bb4 Z3.lt;have g4:=hr4 4 _ rfl;rw[hgg] at g4;have H4:=SB.new w4 Sp.zero 56;have b4:Below w4.heap.size w4 (w4.alloc (.cells Sp.zero.vs.toArray 56)):=blA)
   |(refine q03 rfl _ _ rfl w4.heap.size rfl (sp0 gg 0 0) Sp.zero rfl H4 ?_;intro w5 H5 hb5 T5)
   |fail)
  have bb5:=b4.trans (hb5 _ (Nat.le_refl _))
  have B5:=B4.trans (bb5.mono B4.size)
  have Z5:=Z4.below bb5 Z4.lt
  have own5:Sl w5 A3 n3 c3 (lb.drop 0):=(own3.sl.below bb4).below bb5
  have hn3:n3≤236∧236≤n3:=by have:=own5.len;rw[List.drop_zero,hll] at this;omega
  obtain⟨bk,hbk⟩:∃bk,w4.heap.size=bk:=⟨_,rfl⟩
  have hwb:w.heap.size<bk:=by have:=Z4.lt;omega
  rw[hbk] at H5 ⊢
  clear hr4 hb4 T4 HZ hz3 b3 own3 Z3 B3 hb3 Z1 b1 bb4 H4 b4 hb5 T5 bb5 Z4 B4 g4 hbk hbg hgg
  refine (rctake (l0:=lb) 0 2 n3 own5 2 rfl (by omega) (by omega) (by omega) (by omega)).mono ?_
  rintro e w6 ⟨A6,n6,c6,rfl,own6,hn6,hb6⟩
  have H6:=H5.below hb6 H5.lt
  have Z6:=Z5.below hb6 Z5.lt
  have B6:=B5.trans (hb6.mono B5.size)
  have q6:=H6.c1
  have f6:=H6.fz 1
  obtain⟨x0,hx0⟩:∃x0:Int,(gN lb 0 2:Int)=x0:=⟨_,rfl⟩
  rw[hx0]
  have own7:=q2d own6 (show bk<w5.heap.size from H5.lt) (j:=1) (.int .i64 x0)
  have bs7:=q1d w6 bk 1 (.int .i64 x0)
  have H7:=H6.set1 x0
  have Z7:=Z6.below bs7 (by omega)
  have B7:=B6.trans (bs7.mono (by omega))
  go_wp2_with fail
  clear own6 bs7 q6 f6 H6 Z6 B6 H5 Z5 B5 own5 hb6
  generalize w6.setCell ⟨bk,1,none⟩ (.int .i64 x0)=w7 at own7 H7 Z7 B7 ⊢
  refine (rctake (l0:=lb) 2 2 n6 own7.sl 2 rfl (by omega) (by omega) (by omega) (by omega)).mono ?_
  rintro e w8 ⟨A8,n8,c8,rfl,own8,hn8,hb8⟩
  have H8:=H7.below hb8 H7.lt
  have Z8:=Z7.below hb8 Z7.lt
  have B8:=B7.trans (hb8.mono B7.size)
  have q8:=H8.c2
  have f8:=H8.fz 2
  obtain⟨y0,hy0⟩:∃y0:Int,(gN lb 2 2:Int)=y0:=⟨_,rfl⟩
  rw[hy0]
  have own9:=q2d own8 (show bk<w7.heap.size from H7.lt) (j:=2) (.int .i64 y0)
  have bs9:=q1d w8 bk 2 (.int .i64 y0)
  have H9:=H8.set2 y0
  have Z9:=Z8.below bs9 (by omega)
  have B9:=B8.trans (bs9.mono (by omega))
  go_wp2_with fail
  clear own8 bs9 q8 f8 H8 Z8 B8 H7 Z7 B7 own7 hb8
  have hn9:n8+4≤236∧236≤n8+4:=by omega
  have e9:∀H:Sp,SB (w8.setCell ⟨bk,2,none⟩ (.int .i64 y0)) bk H→H=sp0 gg x0 y0→SB (w8.setCell ⟨bk,2,none⟩ (.int .i64 y0)) bk (rfTo gg lb 0):=fun H h e=>by
   rw[ql2,hx0,hy0,←e]
   exact h
  have H9:=e9 _ H9 rfl
  generalize w8.setCell ⟨bk,2,none⟩ (.int .i64 y0)=w9 at own9 H9 Z9 B9 e9 ⊢
  have sl9:Sl w9 A8 n8 c8 (lb.drop (4+18*0)):=own9.sl
  clear e9 own9 hx0 hy0 hn3 hn6 hn8
  go_loopw [7,12] (fun b i wr=>∃(k m:Nat) (A:Option Addr) (c:Nat),k≤8∧236≤m+4+18*k∧m≤236∧b=.slice A m c∧i=.int .i64 (k:Int)∧(∀j,j<k→gN (lb.drop (4+18*j)) 0 1≤10)∧Sl wr A m c (lb.drop (4+18*k))∧SB wr bk (rfTo gg lb k)∧SB wr w.heap.size Sp.zero∧Below w.heap.size w wr) (fun _ i _=>8-(intOf i).toNat)
  case atStart=>exact⟨0,n8,A8,c8,by omega,by omega,by omega,rfl,rfl,fun j hj=>by omega,sl9,H9,Z9,B9⟩
  case round=>
   clear sl9 H9 Z9 B9
   obtain⟨k,m,A,c,hk,hm1,hm2,rfl,rfl,hsm,sl,H,Z,hB⟩:=hrel
   by_cases hlt:k<8
   ·have hk0:(0:Int)≤(k:Int):=by omega
    have hnx:=Lib.hid (ql3 gg lb hlt)
    obtain⟨L,hL⟩:∃L,lb.drop (4+18*k)=L:=⟨_,rfl⟩
    have hLn:=Lib.hid (show lb.drop (4+18*(k+1))=L.drop 18 by rw[←hL,List.drop_drop,show 4+18*k+18=4+18*(k+1) by omega])
    rw[hL] at sl hnx
    have HL:=Lib.hid hL
    clear hL
    have sl0:Sl wr A m c (L.drop 0):=sl
    go_wp2_with fail
    refine (rctake (l0:=L) 0 1 m sl0 1 rfl (by omega) (by omega) (by omega) (by omega)).mono ?_
    rintro e w10 ⟨A10,n10,c10,rfl,own10,hn10,hb10⟩
    have H10:=H.below hb10 H.lt
    have Z10:=Z.below hb10 Z.lt
    have B10:=hB.trans (hb10.mono hB.size)
    have hlt10:=H.lt
    obtain⟨m0,hm0⟩:∃m0,gN L 0 1=m0:=⟨_,rfl⟩
    have hrdn:=Lib.hid (show rdN L=⟨((L.drop 1).take (min m0 10)).toArray⟩ by unfold rdN;rw[hm0])
    rw[hm0]
    have Hm0:=Lib.hid hm0
    clear hm0 sl sl0 H Z hB
    by_cases hbig:m0≤10
    ·have hbg1:¬(10:Int)<(m0:Int):=by omega
     obtain⟨g3,hg3⟩:=own10.some_ (by omega)
     subst hg3
     have c3a:=own10.sl.cap
     have c3m:=own10.sl.max
     unfold maxLen at c3m
     obtain⟨nm,hnm⟩:∃nm,rdN L=nm:=⟨_,rfl⟩
     have Hnm:=Lib.hid hnm
     have hstr:(convert 30 9 (.slice (some ⟨g3,0,none⟩) m0 c10)).run Tryz.prog w10=.ok (.string nm) w10:=by
      have:=q2c (own10.sl.take (k:=m0) (by omega))
      rw[this,←hnm,hrdn.out,Nat.min_eq_left hbig]
     have i0:m0≤c10:=by omega
     have i1:(10:Nat)≤c10:=by omega
     have i2:¬c10=10:=by omega
     obtain⟨v0,hv0⟩:∃v0,(rfTo gg lb k).at_ k=v0:=⟨_,rfl⟩
     obtain⟨r0,r1,r2,r3⟩:=H10.four hlt
     have f0:=H10.fz (3+k*4)
     have own11:=q2d own10 (show bk<wr.heap.size from hlt10) (j:=3+k*4) (.string nm)
     have bs11:=q1d w10 bk (3+k*4) (.string nm)
     have H11:SB (w10.setCell ⟨bk,3+k*4,none⟩ (.string nm)) bk ((rfTo gg lb k).setV k ⟨nm,v0.ro,v0.root,v0.next⟩):=H10.setF hlt 0 (by omega) (.string nm) ⟨nm,v0.ro,v0.root,v0.next⟩ (by rw[hv0];rfl)
     have d11:Sl (w10.setCell ⟨bk,3+k*4,none⟩ (.string nm)) (some ⟨g3,10,none⟩) (n10-10) (c10-10) (L.drop 11):=by
      have:=own11.sl.drop (k:=10) (by omega)
      rw[if_neg (by omega),List.drop_drop] at this
      exact this
     have Z11:=Z10.below bs11 (by omega)
     have B11:=B10.trans (bs11.mono (by omega))
     have z10:=hb10.size
     have z11:(w10.setCell ⟨bk,3+k*4,none⟩ (.string nm)).heap.size=w10.heap.size:=World.size_setCell ..
     clear hnm hrdn bs11 hb10
     go_wp2_with fail
     clear hstr own11 r0 r1 r2 r3 f0 H10 Z10 B10 own10 hv0
     have hn11:n10-10≤m∧m≤n10-10+11:=by omega
     generalize w10.setCell ⟨bk,3+k*4,none⟩ (.string nm)=w11 at H11 d11 Z11 B11 z11 ⊢
     refine (rctake (l0:=L) 11 1 (n10-10) d11 1 rfl (by omega) (by omega) (by omega) (by omega)).mono ?_
     rintro e w12 ⟨A12,n12,c12,rfl,own12,hn12,hb12⟩
     have H12:=H11.below hb12 H11.lt
     have Z12:=Z11.below hb12 Z11.lt
     have B12:=B11.trans (hb12.mono B11.size)
     obtain⟨mk,hmk⟩:∃mk,gN L 11 1=mk:=⟨_,rfl⟩
     rw[hmk]
     obtain⟨ro,hro⟩:∃ro,decide (mk=1)=ro:=⟨_,rfl⟩
     have hro1:((mk:Int)==1)=ro:=by rw[←hro,Bool.eq_iff_iff];simp;omega
     have Hro:=Lib.hid (show decide (gN L 11 1=1)=ro by rw[hmk];exact hro)
     obtain⟨r0,r1,r2,r3⟩:=H12.four hlt
     have f1:=H12.fz (3+k*4+1)
     have own13:=q2d own12 (show bk<w11.heap.size from H11.lt) (j:=3+k*4+1) (.bool ro)
     have bs13:=q1d w12 bk (3+k*4+1) (.bool ro)
     have H13:=H12.setG hlt 1 (by omega) (.bool ro) ⟨nm,ro,v0.root,v0.next⟩ rfl
     have Z13:=Z12.below bs13 (by omega)
     have B13:=B12.trans (bs13.mono (by omega))
     clear hro hmk bs13
     go_wp2_with fail
     clear own12 r0 r1 r2 r3 f1 H12 Z12 B12 hro1 d11 H11 Z11 B11 hb12
     have hn13:n12≤m∧m≤n12+12:=by omega
     generalize w12.setCell ⟨bk,3+k*4+1,none⟩ (.bool ro)=w13 at own13 H13 Z13 B13 ⊢
     refine (rctake (l0:=L) 12 2 n12 own13.sl 2 rfl (by omega) (by omega) (by omega) (by omega)).mono ?_
     rintro e w14 ⟨A14,n14,c14,rfl,own14,hn14,hb14⟩
     have H14:=H13.below hb14 H13.lt
     have Z14:=Z13.below hb14 Z13.lt
     have B14:=B13.trans (hb14.mono B13.size)
     obtain⟨x2,hx2⟩:∃x2:Int,(gN L 12 2:Int)=x2:=⟨_,rfl⟩
     rw[hx2]
     obtain⟨r0,r1,r2,r3⟩:=H14.four hlt
     have f2:=H14.fz (3+k*4+2)
     have own15:=q2d own14 (show bk<w13.heap.size from H13.lt) (j:=3+k*4+2) (.int .i64 x2)
     have bs15:=q1d w14 bk (3+k*4+2) (.int .i64 x2)
     have H15:=H14.setG hlt 2 (by omega) (.int .i64 x2) ⟨nm,ro,x2,v0.next⟩ rfl
     have Z15:=Z14.below bs15 (by omega)
     have B15:=B14.trans (bs15.mono (by omega))
     have Hx2:=Lib.hid hx2
     clear bs15 hx2
     go_wp2_with fail
     clear own14 r0 r1 r2 r3 f2 H14 Z14 B14 H13 Z13 B13 hb14 own13
     have hn15:n14≤m∧m≤n14+14:=by omega
     generalize w14.setCell ⟨bk,3+k*4+2,none⟩ (.int .i64 x2)=w15 at own15 H15 Z15 B15 ⊢
     refine (rctake (l0:=L) 14 4 n14 own15.sl 4 rfl (by omega) (by omega) (by omega) (by omega)).mono ?_
     rintro e w16 ⟨A16,n16,c16,rfl,own16,hn16,hb16⟩
     have H16:=H15.below hb16 H15.lt
     have Z16:=Z15.below hb16 Z15.lt
     have B16:=B15.trans (hb16.mono B15.size)
     obtain⟨x3,hx3⟩:∃x3:Int,(gN L 14 4:Int)=x3:=⟨_,rfl⟩
     rw[hx3]
     obtain⟨r0,r1,r2,r3⟩:=H16.four hlt
     have f3:=H16.fz (3+k*4+3)
     have own17:=q2d own16 (show bk<w15.heap.size from H15.lt) (j:=3+k*4+3) (.int .i64 x3)
     have bs17:=q1d w16 bk (3+k*4+3) (.int .i64 x3)
     have H17:=H16.setG hlt 3 (by omega) (.int .i64 x3) ⟨nm,ro,x2,x3⟩ rfl
     have Z17:=Z16.below bs17 (by omega)
     have B17:=B16.trans (bs17.mono (by omega))
     have sl17:=own17.sl
     rw[←hLn.out] at sl17
     have hrf:(⟨nm,ro,x2,x3⟩:Vl)=rfV L:=by unfold rfV;rw[Hnm.out,Hro.out,Hx2.out,hx3]
     rw[hrf,hnx.out] at H17
     have hn17:236≤n16+4+18*(k+1)∧n16≤236:=by omega
     have hsm':=Lib.hid hsm
     clear bs17 hx3 hrf hsm
     go_wp2
     refine⟨⟨k+1,n16,A16,c16,by omega,hn17.1,hn17.2,rfl,by go_num,fun j hj=>?_,sl17,H17,Z17,B17⟩,by simp[intOf];omega⟩
     by_cases hjk:j=k
     ·rw[hjk,HL.out,Hm0.out];exact hbig
     ·exact hsm'.out j (by omega)
    ·have hbg1:(10:Int)<(m0:Int):=by omega
     have hno:srOk l slot=false:=by
      cases hq:srOk l slot
      ·rfl
      ·have:=(qbg hq).1 k hlt
       rw[HLB.out,HL.out,Hm0.out] at this
       omega
     obtain⟨s1,s2⟩:=q8n hno
     clear hno hbig hrdn
     go_wp2_with (first
      |(refine q03 rfl _ _ rfl w.heap.size rfl Sp.zero Sp.zero rfl Z10 ?_;intro w11 H11 hb11 T11)
      |fail)
     refine bodyPost_ret (q0t Tryz.results177 rfl (q17 H11)) rfl ?_
     rw[s1,s2]
     exact⟨rfl,B10.trans (hb11 _ (Nat.le_refl _))⟩
   ·have hk8:k=8:=by omega
    subst hk8
    obtain⟨R,hR⟩:∃R,rfTo gg lb 8=R:=⟨_,rfl⟩
    have hf:R.fine:=by rw[←hR];exact ql4 gg lb
    have hRL:=Lib.hid (show rfL l=R by unfold rfL;rw[HG.out,HLB.out,hR])
    rw[hR] at H
    clear hR sl hsm
    have hld:=H.ld
    go_wp2_with fail
    refine (qbb R slot hf wr).mono ?_
    rintro e w10 ⟨A10,n10,c10,rfl,s10,hb10⟩
    have H10:=H.below hb10 H.lt
    have Z10:=Z.below hb10 Z.lt
    have B10:=hB.trans (hb10.mono hB.size)
    have hld10:=H10.ld
    clear hld H Z hb10
    obtain⟨q,hq⟩:∃q,swOk R slot=q:=⟨_,rfl⟩
    cases q
    ·obtain⟨h1,h2⟩:=qhu hq
     obtain⟨s1,s2⟩:=q8n (l:=l) (slot:=slot) (by rw[←qt4];unfold rfOk;rw[hRL.out,hq,Bool.false_and,Bool.and_false])
     rw[h1]
     go_wp2_with (first
      |(refine q03 rfl _ _ rfl w.heap.size rfl Sp.zero Sp.zero rfl Z10 ?_;intro w11 H11 hb11 T11)
      |fail)
     refine bodyPost_ret (q0t Tryz.results177 rfl (q17 H11)) rfl ?_
     rw[s1,s2]
     exact⟨rfl,B10.trans (hb11 _ (Nat.le_refl _))⟩
    ·obtain⟨h1,h2,_,_⟩:=q9p hq
     rw[h1]
     obtain⟨X,hX⟩:∃X,swB R slot=X:=⟨_,rfl⟩
     rw[hX] at s10
     have k1:=q2c s10
     have k2:=q2c (hs.below B10)
     obtain⟨r,hr⟩:∃r,decide (X=l)=r:=⟨_,rfl⟩
     have hok:=Lib.hid (show srOk l slot=r by rw[←qt4];unfold rfOk;rw[ho,hRL.out,hq,hX,hr];rfl)
     have hsb:((⟨X.toArray⟩:ByteArray).toList==(⟨l.toArray⟩:ByteArray).toList)=r:=by
      rw[ByteArray.toList_eq,ByteArray.toList_eq,←hr,Bool.eq_iff_iff,beq_iff_eq,decide_eq_true_eq]
     obtain⟨S1,hS1⟩:∃S1,(⟨X.toArray⟩:ByteArray)=S1:=⟨_,rfl⟩
     obtain⟨S2,hS2⟩:∃S2,(⟨l.toArray⟩:ByteArray)=S2:=⟨_,rfl⟩
     rw[hS1] at k1 hsb
     rw[hS2] at k2 hsb
     clear hS1 hS2 hX hr h1 h2 hf hlen
     cases r
     ·obtain⟨s1,s2⟩:=q8n hok.out
      go_wp2_with (first
       |(refine q03 rfl _ _ rfl w.heap.size rfl Sp.zero Sp.zero rfl Z10 ?_;intro w11 H11 hb11 T11)
       |fail)
      refine bodyPost_ret (q0t Tryz.results177 rfl (q17 H11)) rfl ?_
      rw[s1,s2]
      exact⟨rfl,B10.trans (hb11 _ (Nat.le_refl _))⟩
     ·have s1:=rf_S hok.out
      have s2:=(q9z hok.out).2
      go_wp2_with (first
       |(refine q03 rfl _ _ rfl w.heap.size rfl R Sp.zero rfl Z10 ?_;intro w11 H11 hb11 T11)
       |fail)
      refine bodyPost_ret (q0t Tryz.results177 rfl (q17 H11)) rfl ?_
      rw[s1,s2,hRL.out]
      exact⟨rfl,B10.trans (hb11 _ (Nat.le_refl _))⟩
end
section
def q3c (A:Option Addr)(n c:Nat)(a:List UInt8)(B:Option Addr)(m d:Nat)(b:List UInt8)(w:World):Prop:=
  Calls Tryz.prog 94 #[.slice A n c,.slice B m d] w fun e w'=>e=.returned (.tuple #[.agg (snS a b).vs.toArray,.int .i64 (snI a b),.int .i64 (snE a b)])∧Below w.heap.size w w'
attribute [local go_sem ↓] q12 q3j q1s q4u qbe
theorem q6r (A:Option Addr)(n c:Nat)(a:List UInt8)(B:Option Addr)(m d:Nat)(b:List UInt8)(w:World)(ha:Sl w A n c a)(hb:Sl w B m d b)(ht:Tab w):q3c A n c a B m d b w:=by
 unfold q3c
 have hal:=q1t true
 have hbd:=q7i
 have Z1:=SB.new w Sp.zero 56
 have b1:Below w.heap.size w (w.alloc (.cells Sp.zero.vs.toArray 56)):=blA
 go_enter Tryz.func94,Tryz.ntmps94
 go_wp2_with fail
 generalize w.alloc (.cells Sp.zero.vs.toArray 56)=w1 at Z1 b1 ⊢
 refine Calls.mono (qd7 A n c a 0 w1 (ha.below b1) (ht.below b1 ht.1)) ?_
 rintro e w2 ⟨rfl,hb2⟩
 have Z2:=Z1.below hb2 Z1.lt
 have B2:=b1.trans (hb2.mono b1.size)
 have H2:=SB.new w2 Sp.zero 56
 have b2:Below w2.heap.size w2 (w2.alloc (.cells Sp.zero.vs.toArray 56)):=blA
 have ka:=qgq (l:=a) (slot:=0)
 have kb:=qgq (l:=b) (slot:=1)
 have K2:=fun h1 h2=>sn_2 (a:=a) (b:=b) h1 h2
 have K1:=fun h1 h2=>sn_1 (a:=a) (b:=b) h1 h2
 have K0:=fun h1 h2=>sn_0 (a:=a) (b:=b) h1 h2
 obtain⟨SA,hSA⟩:∃SA,srS a 0=SA:=⟨_,rfl⟩
 obtain⟨SC,hSC⟩:∃SC,srS b 1=SC:=⟨_,rfl⟩
 rw[hSA] at ka K1 K0 ⊢
 rw[hSC] at kb K1 K0
 clear hSA
 have KK:=Lib.hid (And.intro K2 (And.intro K1 K0))
 have Ka:=Lib.hid ka
 have Kb:=Lib.hid kb
 clear K2 K1 K0 ka kb
 obtain⟨ea,hea⟩:∃ea,srE a 0=ea:=⟨_,rfl⟩
 rw[hea]
 clear hea
 go_wp2_with (first
  |(refine q03 rfl _ _ rfl w2.heap.size rfl SA Sp.zero rfl H2 ?_;intro w3 H3 hb3 T3;have bb3:=b2.trans (hb3 _ (Nat.le_refl _));have B3:=B2.trans (bb3.mono B2.size);have Z3:=Z2.below bb3 Z2.lt)
  |fail)
 refine Calls.mono (qd7 B m d b 1 w3 (hb.below B3) (ht.below B3 ht.1)) ?_
 rw[hSC]
 rintro e w4 ⟨rfl,hb4⟩
 have H4:=H3.below hb4 H3.lt
 have Z4:=Z3.below hb4 Z3.lt
 have B4:=B3.trans (hb4.mono B3.size)
 have H4b:=SB.new w4 Sp.zero 56
 have b4:Below w4.heap.size w4 (w4.alloc (.cells Sp.zero.vs.toArray 56)):=blA
 obtain⟨eb,heb⟩:∃eb,srE b 1=eb:=⟨_,rfl⟩
 rw[heb]
 clear heb hSC H2 b2 hb3 T3 bb3 B3 Z3 H3 hb4 Z2 B2 hb2 Z1 b1
 obtain⟨fa,hfa⟩:∃fa,SA.gen=fa:=⟨_,rfl⟩
 obtain⟨fb,hfb⟩:∃fb,SC.gen=fb:=⟨_,rfl⟩
 have Hfa:=Lib.hid hfa
 have Hfb:=Lib.hid hfb
 obtain⟨bk,hbk⟩:∃bk,w2.heap.size=bk:=⟨_,rfl⟩
 rw[hbk] at H4 ⊢
 have hww:w.heap.size<w4.heap.size:=Z4.lt
 have hwk:bk<w4.heap.size:=H4.lt
 rcases Ka.out with ka|ka
 ·rcases Kb.out with kb|kb
  ·have hK:=KK.out.1 ka.2.2 kb.2.2
   have e1:fa=0:=by rw[←Hfa.out];exact ka.1
   have e2:fb=0:=by rw[←Hfb.out];exact kb.1
   subst e1 e2
   go_wp2_with (first
    |(refine q03 rfl _ _ rfl w4.heap.size rfl SC Sp.zero rfl H4b ?_;intro w5 H5 hb5 T5;have bb5:=b4.trans (hb5 _ (Nat.le_refl _));have B5:=B4.trans (bb5.mono B4.size);have Z5:=Z4.below bb5 Z4.lt;have H6:=H4.below bb5 H4.lt;have g5:=H5.c0;have g6:=H6.c0;have l5:=H5.ld;have l6:=H6.ld;rw[hfb] at g5;rw[hfa] at g6)
    |(refine q03 rfl _ _ rfl w.heap.size rfl Sp.zero Sp.zero rfl Z5 ?_;intro w9 H9 hb9 T9)
    |fail)
   refine bodyPost_ret (q09 Tryz.results94 rfl (q17 H9)) rfl ?_
   rw[hK.1,hK.2.1,hK.2.2]
   exact⟨rfl,B5.trans (hb9 _ (Nat.le_refl _))⟩
  ·have e1:fa=0:=by rw[←Hfa.out];exact ka.1
   have e2:1≤fb:=by rw[←Hfb.out];exact kb.1
   have hK:=KK.out.2.1 (by rw[ka.2.2,kb.2.2];simp) (by rw[Hfa.out,Hfb.out];omega)
   subst e1
   have e3:¬fb=0:=by omega
   have e4:(0:Int)<fb:=by omega
   have e5:(fb==0)=false:=by simpa using e3
   go_wp2_with (first
    |(refine q03 rfl _ _ rfl w4.heap.size rfl SC Sp.zero rfl H4b ?_;intro w5 H5 hb5 T5;have bb5:=b4.trans (hb5 _ (Nat.le_refl _));have B5:=B4.trans (bb5.mono B4.size);have Z5:=Z4.below bb5 Z4.lt;have H6:=H4.below bb5 H4.lt;have g5:=H5.c0;have g6:=H6.c0;have l5:=H5.ld;have l6:=H6.ld;rw[hfb] at g5;rw[hfa] at g6)
    |(refine q03 rfl _ _ rfl w.heap.size rfl SC Sp.zero rfl Z5 ?_;intro w9 H9 hb9 T9)
    |fail)
   refine bodyPost_ret (q09 Tryz.results94 rfl (q17 H9)) rfl ?_
   rw[hK.1,hK.2.1,hK.2.2]
   exact⟨rfl,B5.trans (hb9 _ (Nat.le_refl _))⟩
 ·have e1:1≤fa:=by rw[←Hfa.out];exact ka.1
  have e3:¬fa=0:=by omega
  have e5:(fa==0)=false:=by simpa using e3
  by_cases hlt:fa<fb
  ·have hK:=KK.out.2.1 (by rw[ka.2.2];simp) (by rw[Hfa.out,Hfb.out];exact hlt)
   have e6:decide (fa<fb)=true:=decide_eq_true hlt
   go_wp2_with (first
    |(refine q03 rfl _ _ rfl w4.heap.size rfl SC Sp.zero rfl H4b ?_;intro w5 H5 hb5 T5;have bb5:=b4.trans (hb5 _ (Nat.le_refl _));have B5:=B4.trans (bb5.mono B4.size);have Z5:=Z4.below bb5 Z4.lt;have H6:=H4.below bb5 H4.lt;have g5:=H5.c0;have g6:=H6.c0;have l5:=H5.ld;have l6:=H6.ld;rw[hfb] at g5;rw[hfa] at g6)
    |(refine q03 rfl _ _ rfl w.heap.size rfl SC Sp.zero rfl Z5 ?_;intro w9 H9 hb9 T9)
    |fail)
   refine bodyPost_ret (q09 Tryz.results94 rfl (q17 H9)) rfl ?_
   rw[hK.1,hK.2.1,hK.2.2]
   exact⟨rfl,B5.trans (hb9 _ (Nat.le_refl _))⟩
  ·have hK:=KK.out.2.2 (by rw[ka.2.2];simp) (by rw[Hfa.out,Hfb.out];omega)
   have e6:decide (fa<fb)=false:=decide_eq_false hlt
   go_wp2_with (first
    |(refine q03 rfl _ _ rfl w4.heap.size rfl SC Sp.zero rfl H4b ?_;intro w5 H5 hb5 T5;have bb5:=b4.trans (hb5 _ (Nat.le_refl _));have B5:=B4.trans (bb5.mono B4.size);have Z5:=Z4.below bb5 Z4.lt;have H6:=H4.below bb5 H4.lt;have g5:=H5.c0;have g6:=H6.c0;have l5:=H5.ld;have l6:=H6.ld;rw[hfb] at g5;rw[hfa] at g6)
    |(refine q03 rfl _ _ rfl w.heap.size rfl SA Sp.zero rfl Z5 ?_;intro w9 H9 hb9 T9)
    |fail)
   refine bodyPost_ret (q09 Tryz.results94 rfl (q17 H9)) rfl ?_
   rw[hK.1,hK.2.1,hK.2.2]
   exact⟨rfl,B5.trans (hb9 _ (Nat.le_refl _))⟩
def q1x (A:Option Addr)(n c:Nat)(a:List UInt8)(B:Option Addr)(m d:Nat)(b:List UInt8)(w:World):Prop:=
  Calls Tryz.prog 130 #[.slice A n c,.slice B m d] w fun e w'=>e=.returned (.tuple #[.agg (snS a b).vs.toArray,.int .i64 (snI a b),.int .i64 (snE a b)])∧Below w.heap.size w w'
theorem q3r (A:Option Addr)(n c:Nat)(a:List UInt8)(B:Option Addr)(m d:Nat)(b:List UInt8)(w:World)(ha:Sl w A n c a)(hb:Sl w B m d b):q1x A n c a B m d b w:=by
 unfold q1x
 have hal:=q1t true
 have hbd:=q7i
 have Z1:=SB.new w Sp.zero 56
 have b1:Below w.heap.size w (w.alloc (.cells Sp.zero.vs.toArray 56)):=blA
 go_enter Tryz.func130,Tryz.ntmps130
 go_wp2_with fail
 generalize w.alloc (.cells Sp.zero.vs.toArray 56)=w1 at Z1 b1 ⊢
 refine Calls.mono (q78 A n c a 0 w1 (ha.below b1)) ?_
 rintro e w2 ⟨rfl,hb2⟩
 have Z2:=Z1.below hb2 Z1.lt
 have B2:=b1.trans (hb2.mono b1.size)
 have H2:=SB.new w2 Sp.zero 56
 have b2:Below w2.heap.size w2 (w2.alloc (.cells Sp.zero.vs.toArray 56)):=blA
 have ka:=qgq (l:=a) (slot:=0)
 have kb:=qgq (l:=b) (slot:=1)
 have K2:=fun h1 h2=>sn_2 (a:=a) (b:=b) h1 h2
 have K1:=fun h1 h2=>sn_1 (a:=a) (b:=b) h1 h2
 have K0:=fun h1 h2=>sn_0 (a:=a) (b:=b) h1 h2
 obtain⟨SA,hSA⟩:∃SA,srS a 0=SA:=⟨_,rfl⟩
 obtain⟨SC,hSC⟩:∃SC,srS b 1=SC:=⟨_,rfl⟩
 rw[hSA] at ka K1 K0 ⊢
 rw[hSC] at kb K1 K0
 clear hSA
 have KK:=Lib.hid (And.intro K2 (And.intro K1 K0))
 have Ka:=Lib.hid ka
 have Kb:=Lib.hid kb
 clear K2 K1 K0 ka kb
 obtain⟨ea,hea⟩:∃ea,srE a 0=ea:=⟨_,rfl⟩
 rw[hea]
 have Hea:=Lib.hid hea
 clear hea
 go_wp2_with (first
  |(refine q03 rfl _ _ rfl w2.heap.size rfl SA Sp.zero rfl H2 ?_;intro w3 H3 hb3 T3;have bb3:=b2.trans (hb3 _ (Nat.le_refl _));have B3:=B2.trans (bb3.mono B2.size);have Z3:=Z2.below bb3 Z2.lt)
  |fail)
 refine Calls.mono (q78 B m d b 1 w3 (hb.below B3)) ?_
 rw[hSC]
 rintro e w4 ⟨rfl,hb4⟩
 have H4:=H3.below hb4 H3.lt
 have Z4:=Z3.below hb4 Z3.lt
 have B4:=B3.trans (hb4.mono B3.size)
 have H4b:=SB.new w4 Sp.zero 56
 have b4:Below w4.heap.size w4 (w4.alloc (.cells Sp.zero.vs.toArray 56)):=blA
 obtain⟨eb,heb⟩:∃eb,srE b 1=eb:=⟨_,rfl⟩
 rw[heb]
 have Heb:=Lib.hid heb
 clear heb hSC H2 b2 hb3 T3 bb3 B3 Z3 H3 hb4 Z2 B2 hb2 Z1 b1
 obtain⟨fa,hfa⟩:∃fa,SA.gen=fa:=⟨_,rfl⟩
 obtain⟨fb,hfb⟩:∃fb,SC.gen=fb:=⟨_,rfl⟩
 have Hfa:=Lib.hid hfa
 have Hfb:=Lib.hid hfb
 obtain⟨bk,hbk⟩:∃bk,w2.heap.size=bk:=⟨_,rfl⟩
 rw[hbk] at H4 ⊢
 have hww:w.heap.size<w4.heap.size:=Z4.lt
 have hwk:bk<w4.heap.size:=H4.lt
 rcases Ka.out with ka|ka
 ·rcases Kb.out with kb|kb
  ·have hK:=KK.out.1 ka.2.2 kb.2.2
   have e1:fa=0:=by rw[←Hfa.out];exact ka.1
   have e2:fb=0:=by rw[←Hfb.out];exact kb.1
   obtain rfl:ea=3:=by rw[←Hea.out];exact ka.2.1
   obtain rfl:eb=3:=by rw[←Heb.out];exact kb.2.1
   subst e1 e2
   go_wp2_with (first
    |(refine q03 rfl _ _ rfl w4.heap.size rfl SC Sp.zero rfl H4b ?_;intro w5 H5 hb5 T5;have bb5:=b4.trans (hb5 _ (Nat.le_refl _));have B5:=B4.trans (bb5.mono B4.size);have Z5:=Z4.below bb5 Z4.lt;have H6:=H4.below bb5 H4.lt;have g5:=H5.c0;have g6:=H6.c0;have l5:=H5.ld;have l6:=H6.ld;rw[hfb] at g5;rw[hfa] at g6)
    |(refine q03 rfl _ _ rfl w.heap.size rfl Sp.zero Sp.zero rfl Z5 ?_;intro w9 H9 hb9 T9)
    |fail)
   refine bodyPost_ret (q09 Tryz.results130 rfl (q17 H9)) rfl ?_
   rw[hK.1,hK.2.1,hK.2.2]
   exact⟨rfl,B5.trans (hb9 _ (Nat.le_refl _))⟩
  ·have e1:fa=0:=by rw[←Hfa.out];exact ka.1
   have e2:1≤fb:=by rw[←Hfb.out];exact kb.1
   have hK:=KK.out.2.1 (by rw[ka.2.2,kb.2.2];simp) (by rw[Hfa.out,Hfb.out];omega)
   obtain rfl:ea=3:=by rw[←Hea.out];exact ka.2.1
   obtain rfl:eb=0:=by rw[←Heb.out];exact kb.2.1
   subst e1
   have e3:¬fb=0:=by omega
   have e4:(0:Int)<fb:=by omega
   have e5:(fb==0)=false:=by simpa using e3
   go_wp2_with (first
    |(refine q03 rfl _ _ rfl w4.heap.size rfl SC Sp.zero rfl H4b ?_;intro w5 H5 hb5 T5;have bb5:=b4.trans (hb5 _ (Nat.le_refl _));have B5:=B4.trans (bb5.mono B4.size);have Z5:=Z4.below bb5 Z4.lt;have H6:=H4.below bb5 H4.lt;have g5:=H5.c0;have g6:=H6.c0;have l5:=H5.ld;have l6:=H6.ld;rw[hfb] at g5;rw[hfa] at g6)
    |(refine q03 rfl _ _ rfl w.heap.size rfl SC Sp.zero rfl Z5 ?_;intro w9 H9 hb9 T9)
    |fail)
   refine bodyPost_ret (q09 Tryz.results130 rfl (q17 H9)) rfl ?_
   rw[hK.1,hK.2.1,hK.2.2]
   exact⟨rfl,B5.trans (hb9 _ (Nat.le_refl _))⟩
 ·have e1:1≤fa:=by rw[←Hfa.out];exact ka.1
  have e3:¬fa=0:=by omega
  have e5:(fa==0)=false:=by simpa using e3
  obtain rfl:ea=0:=by rw[←Hea.out];exact ka.2.1
  rcases Kb.out with kb|kb
  ·obtain rfl:eb=3:=by rw[←Heb.out];exact kb.2.1
   have e2:fb=0:=by rw[←Hfb.out];exact kb.1
   have hlt:¬fa<fb:=by omega
   have hK:=KK.out.2.2 (by rw[ka.2.2];simp) (by rw[Hfa.out,Hfb.out];omega)
   have e6:decide (fa<fb)=false:=decide_eq_false hlt
   go_wp2_with (first
    |(refine q03 rfl _ _ rfl w4.heap.size rfl SC Sp.zero rfl H4b ?_;intro w5 H5 hb5 T5;have bb5:=b4.trans (hb5 _ (Nat.le_refl _));have B5:=B4.trans (bb5.mono B4.size);have Z5:=Z4.below bb5 Z4.lt;have H6:=H4.below bb5 H4.lt;have g5:=H5.c0;have g6:=H6.c0;have l5:=H5.ld;have l6:=H6.ld;rw[hfb] at g5;rw[hfa] at g6)
    |(refine q03 rfl _ _ rfl w.heap.size rfl SA Sp.zero rfl Z5 ?_;intro w9 H9 hb9 T9)
    |fail)
   refine bodyPost_ret (q09 Tryz.results130 rfl (q17 H9)) rfl ?_
   rw[hK.1,hK.2.1,hK.2.2]
   exact⟨rfl,B5.trans (hb9 _ (Nat.le_refl _))⟩
  ·obtain rfl:eb=0:=by rw[←Heb.out];exact kb.2.1
   by_cases hlt:fa<fb
   ·have hK:=KK.out.2.1 (by rw[ka.2.2];simp) (by rw[Hfa.out,Hfb.out];exact hlt)
    have e6:decide (fa<fb)=true:=decide_eq_true hlt
    go_wp2_with (first
     |(refine q03 rfl _ _ rfl w4.heap.size rfl SC Sp.zero rfl H4b ?_;intro w5 H5 hb5 T5;have bb5:=b4.trans (hb5 _ (Nat.le_refl _));have B5:=B4.trans (bb5.mono B4.size);have Z5:=Z4.below bb5 Z4.lt;have H6:=H4.below bb5 H4.lt;have g5:=H5.c0;have g6:=H6.c0;have l5:=H5.ld;have l6:=H6.ld;rw[hfb] at g5;rw[hfa] at g6)
     |(refine q03 rfl _ _ rfl w.heap.size rfl SC Sp.zero rfl Z5 ?_;intro w9 H9 hb9 T9)
     |fail)
    refine bodyPost_ret (q09 Tryz.results130 rfl (q17 H9)) rfl ?_
    rw[hK.1,hK.2.1,hK.2.2]
    exact⟨rfl,B5.trans (hb9 _ (Nat.le_refl _))⟩
   ·have hK:=KK.out.2.2 (by rw[ka.2.2];simp) (by rw[Hfa.out,Hfb.out];omega)
    have e6:decide (fa<fb)=false:=decide_eq_false hlt
    go_wp2_with (first
     |(refine q03 rfl _ _ rfl w4.heap.size rfl SC Sp.zero rfl H4b ?_;intro w5 H5 hb5 T5;have bb5:=b4.trans (hb5 _ (Nat.le_refl _));have B5:=B4.trans (bb5.mono B4.size);have Z5:=Z4.below bb5 Z4.lt;have H6:=H4.below bb5 H4.lt;have g5:=H5.c0;have g6:=H6.c0;have l5:=H5.ld;have l6:=H6.ld;rw[hfb] at g5;rw[hfa] at g6)
     |(refine q03 rfl _ _ rfl w.heap.size rfl SA Sp.zero rfl Z5 ?_;intro w9 H9 hb9 T9)
     |fail)
    refine bodyPost_ret (q09 Tryz.results130 rfl (q17 H9)) rfl ?_
    rw[hK.1,hK.2.1,hK.2.2]
    exact⟨rfl,B5.trans (hb9 _ (Nat.le_refl _))⟩
end
end Go.Proofs.YtipejjgodnnkaaaGreatDoor
