/- Superblocks: the code's Read -/
import Derived.Test.YtipejjgodnnkaaaGreatDoorPm10
import Derived.Test.YtipejjgodnnkaaaGreatDoorPm16
import Derived.Test.YtipejjgodnnkaaaGreatDoorPm20
import Derived.Test.YtipejjgodnnkaaaGreatDoorPm23
import Derived.Laws.Cover3
namespace Go.Proofs.YtipejjgodnnkaaaGreatDoor
open Go Go.RowKit Go.Proofs
set_option maxHeartbeats 4000000
set_option maxRecDepth 100000
section
def rdL (l:List UInt8):Sp:=rdS (opH l).gen (opB l)
def srOk (l:List UInt8)(slot:Int):Bool:=okB l&&(swOk (rdL l) slot&&decide (l=swB (rdL l) slot))
def srS (l:List UInt8)(slot:Int):Sp:=if srOk l slot=true then rdL l else Sp.zero
def srE (l:List UInt8)(slot:Int):Int:=if srOk l slot=true then 0 else 3
theorem q8n {l:List UInt8}{slot:Int}(h:srOk l slot=false):srS l slot=Sp.zero∧srE l slot=3:=by
 unfold srS srE
 rw[h]
 exact⟨rfl,rfl⟩
theorem q9z {l:List UInt8}{slot:Int}(h:srOk l slot=true):srS l slot=rdL l∧srE l slot=0:=by
 unfold srS srE
 rw[if_pos h,if_pos h]
 exact⟨rfl,rfl⟩
def ldX (p:Value):Sem Value:=Instr.loadAt 124 p
theorem qbe (p:Value):Instr.loadAt 124 p=ldX p:=rfl
theorem q4l {P:Program}(w:World)(a:Addr)(ty:TypeId)(cs:List Value)(d:TypeDesc)(hc:∀(j:Nat) v,cs[j]?=some v→w.cell? (a.add j)=some v)
  (hu:P.underlying ty=some d) (hd:d.isRow=true) (hi:(P.info? ty).map (·.size)=some cs.length) :
  (loadVar ty a).run P w=.ok (.agg cs.toArray) w:=by
 have hl:(loadCells a cs.length).run P w=.ok cs.toArray w:=run_loadCells_list (P:=P) w a cs hc
 cases hq:P.info? ty with
 |none=>simp[hq] at hi
 |some i=>
  have hs:i.size=cs.length:=by simpa [hq] using hi
  have hagg:(isAgg ty).run P w=.ok true w:=by
   unfold isAgg
   rw[Sem.run_bind,run_underlying hu w]
   cases d<;>simp_all
  simp[loadVar,Sem.run_bind,hagg,sizeOf,typeInfo,hq,hs,hl]
theorem qkr {w:World}{ad:Addr}{c:Nat}{l:List UInt8}(h:Sl w (some ad) 256 c l):(ldX (.pointer (some ad))).run Tryz.prog w=.ok (.agg (l.map bv).toArray) w:=by
 have hl:=h.len
 unfold ldX
 simp only[Instr.loadAt,Instr.sureAddr,Sem.run_bind,Sem.run_pure,Result.andThen_ok,q4l w ad 124 (l.map bv) _ (fun j v hv=>by
  obtain⟨ad',e,_,hc⟩:=h.2.2.2 j v hv
  injection e with e
  subst e
  exact hc) Tryz.underlying124 rfl (by rw[List.length_map,hl];kernel_rfl)]
theorem qks (ad:Option Addr)(c:Nat)(w:World):(Instr.arrayAt 124 (.slice ad 256 c)).run Tryz.prog w=.ok (.pointer ad) w:=
 run_arrayAt w 124 _ 256 ad 256 c Tryz.underlying124 (Nat.le_refl _)
theorem qkt (op:BinOp)(x y:Operand)(xs ys:Array Value)(w:World):(eqGuard op 124 x y (.agg xs) (.agg ys)).run Tryz.prog w=.ok () w:=
 run_eqGuard_agg w op 124 x y xs ys (by kernel_rfl)
theorem qgp {l:List UInt8}(h:okB l=true):l.length=256:=(of_decide_eq_true h).1
def qd6 (A:Option Addr)(n c:Nat)(l:List UInt8)(slot:Int)(w:World):Prop:=
  Calls Tryz.prog 151 #[.slice A n c,.int .i64 slot] w fun e w'=>e=.returned (.tuple #[.agg (srS l slot).vs.toArray,.int .i64 (srE l slot)])∧Below w.heap.size w w'
attribute [local go_sem ↓] q12 q3j q1s q4u qbe
theorem qd7 (A:Option Addr)(n c:Nat)(l:List UInt8)(slot:Int)(w:World)(hs:Sl w A n c l)(ht:Tab w):qd6 A n c l slot w:=by
 unfold qd6
 have hal:=q1t true
 have hbd:=q7i
 have Z1:=SB.new w Sp.zero 56
 have b1:Below w.heap.size w (w.alloc (.cells Sp.zero.vs.toArray 56)):=blA
 go_enter Tryz.func151,Tryz.ntmps151
 go_wp2_with fail
 generalize w.alloc (.cells Sp.zero.vs.toArray 56)=w1 at Z1 b1 ⊢
 refine (q3y A n c l w1 (hs.below b1) (ht.below b1 ht.1)).mono ?_
 rintro e w3 ⟨A3,n3,c3,rfl,own3,hb3⟩
 have Z3:=Z1.below hb3 Z1.lt
 have B3:=b1.trans (hb3.mono b1.size)
 have HZ:=HB.zero w3 118
 have hz3:w3.heap.size<(w3.alloc (.cells #[.int .i64 0,.int .i64 0,.int .i64 0,.int .i64 0,.int .i64 0] 118)).heap.size:=by simp
 have b3:Below w3.heap.size w3 (w3.alloc (.cells #[.int .i64 0,.int .i64 0,.int .i64 0,.int .i64 0,.int .i64 0] 118)):=blA
 obtain⟨o,ho⟩:∃o,okB l=o:=⟨_,rfl⟩
 cases o
 ·obtain⟨s1,s2⟩:=q8n (l:=l) (slot:=slot) (by unfold srOk;rw[ho];rfl)
  have hE:=(q4q ho).2.2
  rw[hE]
  go_wp2_with (first
   |(refine q08 rfl _ _ rfl w3.heap.size rfl (opH l) _ rfl HZ hz3 ?_;intro w4 hr4 hb4 T4;have B4:=B3.trans ((b3.trans (hb4 _ (Nat.le_refl _))).mono B3.size);have Z4:=Z3.below (b3.trans (hb4 _ (Nat.le_refl _))) Z3.lt)
   |(refine q03 rfl _ _ rfl w.heap.size rfl Sp.zero Sp.zero rfl Z4 ?_;intro w9 H9 hb9 T9)
   |fail)
  refine bodyPost_ret (q0t Tryz.results151 rfl (q17 H9)) rfl ?_
  rw[s1,s2]
  exact⟨rfl,B4.trans (hb9 _ (Nat.le_refl _))⟩
 ·have hE:=(q2f ho).2.2
  rw[hE]
  have hB:opB l=l.drop 20:=(q2f ho).2.1
  have hlen:=qgp ho
  go_wp2_with (first
   |(refine q08 rfl _ _ rfl w3.heap.size rfl (opH l) _ rfl HZ hz3 ?_;intro w4 hr4 hb4 T4;have bb4:=b3.trans (hb4 _ (Nat.le_refl _));have B4:=B3.trans (bb4.mono B3.size);have Z4:=Z3.below bb4 Z3.lt;have g4:=hr4 4 _ rfl)
   |fail)
  have own4:=own3.sl.below bb4
  clear hr4 hb4 T4 HZ hz3 b3 own3 Z3 B3 hb3 Z1 b1 bb4
  have hsp:Sl w4 A3 n3 c3 (opB l):=own4
  have hln:n3=236:=by have:=hsp.len;rw[hB,List.length_drop,hlen] at this;omega
  have hn1:148≤n3:=by omega
  have hn2:n3≤1000:=by omega
  clear hln own4 hB
  refine (qaw (opH l).gen A3 n3 c3 (opB l) w4 hsp hn1 hn2).mono ?_
  rintro e w5 ⟨rfl,hb5⟩
  have Z5:=Z4.below hb5 Z4.lt
  have B5:=B4.trans (hb5.mono B4.size)
  have hf:=qnm (opH l).gen (opB l)
  have hrl:rdS (opH l).gen (opB l)=rdL l:=rfl
  rw[hrl] at hf ⊢
  obtain⟨R,hR⟩:∃R,rdL l=R:=⟨_,rfl⟩
  rw[hR] at hf ⊢
  clear hrl hb5 hsp Z4 B4 g4
  have H6:=SB.new w5 Sp.zero 56
  have b6:Below w5.heap.size w5 (w5.alloc (.cells Sp.zero.vs.toArray 56)):=blA
  go_wp2_with (first
   |(refine q03 rfl _ _ rfl w5.heap.size rfl R Sp.zero rfl H6 ?_;intro w6 H7 hb7 T7;have bb6:=b6.trans (hb7 _ (Nat.le_refl _));have B6:=B5.trans (bb6.mono B5.size);have Z6:=Z5.below bb6 Z5.lt;have hld6:=H7.ld)
   |fail)
  clear H6 b6 hb7 T7 bb6
  refine (q6h R slot hf w6 (ht.below B6 ht.1)).mono ?_
  rintro e w7 ⟨A7,n7,c7,rfl,own7,hg7,hb7⟩
  have Z7:=Z6.below hb7 Z6.lt
  have B7:=B6.trans (hb7.mono B6.size)
  have H8:=H7.below hb7 H7.lt
  obtain⟨k,hk⟩:∃k,swOk R slot=k:=⟨_,rfl⟩
  have hld8:=H8.ld
  clear hld6 Z6 H7 hb7 B6
  cases k
  ·obtain⟨h1,h2⟩:=qhu hk
   obtain⟨s1,s2⟩:=q8n (l:=l) (slot:=slot) (by unfold srOk;rw[hR,hk,Bool.false_and,Bool.and_false])
   rw[h1]
   go_wp2_with fail
   refine q0c (by kernel_rfl) (by kernel_rfl) ?_
   repeat (go_big_quiet_step (fail))
   refine wpQuiet_nil ?_
   rintro _ ⟨u,rfl⟩
   have Z9:=Z7.below u.ok Z7.lt
   have B9:=B7.trans (u.ok.mono B7.size)
   go_wp2_with (first
    |(refine q03 rfl _ _ rfl w.heap.size rfl Sp.zero Sp.zero rfl Z9 ?_;intro w9 H9 hb9 T9)
    |fail)
   refine bodyPost_ret (q0t Tryz.results151 rfl (q17 H9)) rfl ?_
   rw[s1,s2]
   exact⟨rfl,B9.trans (hb9 _ (Nat.le_refl _))⟩
  ·obtain⟨h1,h2,_,_⟩:=q9p hk
   obtain⟨g7,rfl,rfl,rfl⟩:=hg7 hk
   rw[h1]
   have hs7:=hs.below B7
   have hnn:n=256:=by have:=hs7.len;omega
   subst hnn
   obtain⟨ad,rfl,_⟩:=hs.cell (k:=0) (by omega)
   have hsw:=own7.sl
   obtain⟨X,hX⟩:∃X,swB R slot=X:=⟨_,rfl⟩
   rw[hX] at hsw
   have hXl:=hsw.len
   obtain⟨r,hr⟩:∃r,decide (l=X)=r:=⟨_,rfl⟩
   have hx1:∀u:Grown w7,(ldX (.pointer (some ad))).run Tryz.prog u.to=.ok (.agg (l.map bv).toArray) u.to:=fun u=>qkr (hs7.below u.ok)
   have hx2:∀u:Grown w7,(ldX (.pointer (some ⟨g7,0,none⟩))).run Tryz.prog u.to=.ok (.agg (X.map bv).toArray) u.to:=fun u=>qkr (hsw.below u.ok)
   have ha1:=qks (some ad) c
   have ha2:=qks (some ⟨g7,0,none⟩) 256
   have hne:=qnb l X hlen hXl r hr
   have hgb:=qkt
   have hok:=Lib.hid (show srOk l slot=r by unfold srOk;rw[ho,hR,hk,hX,hr];rfl)
   obtain⟨LB,hLB⟩:∃LB,(l.map bv).toArray=LB:=⟨_,rfl⟩
   obtain⟨XB,hXB⟩:∃XB,(X.map bv).toArray=XB:=⟨_,rfl⟩
   rw[hLB] at hx1
   rw[hXB] at hx2
   rw[hLB,hXB] at hne
   clear hlen hXl hLB hXB hX hr hsw own7 hg7 hs7 h1 h2
   cases r
   all_goals
    go_wp2_with fail
    refine q0c (by kernel_rfl) (by kernel_rfl) ?_
    repeat (go_big_quiet_step (fail))
    refine wpQuiet_nil ?_
    rintro _ ⟨u,rfl⟩
    have Z9:=Z7.below u.ok Z7.lt
    have B9:=B7.trans (u.ok.mono B7.size)
    have H9':=H8.below u.ok H8.lt
    have hld9:=H9'.ld
    clear hld8
   ·obtain⟨s1,s2⟩:=q8n hok.out
    go_wp2_with (first
     |(refine q03 rfl _ _ rfl w.heap.size rfl Sp.zero Sp.zero rfl Z9 ?_;intro w9 H9 hb9 T9)
     |fail)
    refine bodyPost_ret (q0t Tryz.results151 rfl (q17 H9)) rfl ?_
    rw[s1,s2]
    exact⟨rfl,B9.trans (hb9 _ (Nat.le_refl _))⟩
   ·obtain⟨s1,s2⟩:=q9z hok.out
    go_wp2_with (first
     |(refine q03 rfl _ _ rfl w.heap.size rfl R Sp.zero rfl Z9 ?_;intro w9 H9 hb9 T9)
     |fail)
    refine bodyPost_ret (q0t Tryz.results151 rfl (q17 H9)) rfl ?_
    rw[s1,s2,hR]
    exact⟨rfl,B9.trans (hb9 _ (Nat.le_refl _))⟩
end
def rfV (l:List UInt8):Vl:=⟨rdN l,decide (gN l 11 1=1),(gN l 12 2:Int),(gN l 14 4:Int)⟩
def rfTo (g:Int)(l:List UInt8)(k:Nat):Sp:=⟨g,(gN l 0 2:Int),(gN l 2 2:Int),(List.range 8).map (fun i=>if i<k then rfV (l.drop (4+18*i)) else Vl.zero),by simp⟩
def rfL (l:List UInt8):Sp:=rfTo (opH l).gen (opB l) 8
def Vl.fits (v:Vl):Prop:=v.name.size≤10∧(0≤v.root∧v.root<65536)∧(0≤v.next∧v.next<4294967296)
theorem qa0 (X Y Z:List UInt8)(p m:Nat)(hX:X.length=p)(hY:Y.length=m):gN (X++(Y++Z)) p m=numL Y:=by
 unfold gN
 rw[List.drop_left' hX,List.take_left' hY]
theorem qku (v:Vl)(hv:v.fits)(Z:List UInt8):gN (volB v++Z) 0 1=v.name.size∧rdN (volB v++Z)=v.name∧(gN (volB v++Z) 11 1:Int)=dgt v.ro∧(gN (volB v++Z) 12 2:Int)=v.root∧(gN (volB v++Z) 14 4:Int)=v.next:=by
 obtain⟨h1,⟨h2,h3⟩,h4,h5⟩:=hv
 have e0:gN (volB v++Z) 0 1=v.name.size:=by
  unfold volB
  have:=qa0 [] (dig (v.name.size:Int) 1) (padL v.name++(dig (dgt v.ro) 1++(dig v.root 2++dig v.next 4))++Z) 0 1 rfl (q0b _ _)
  rw[List.nil_append] at this
  rw[List.append_assoc,this]
  have:=q1l (v.name.size:Int) 1 (by omega) (by omega)
  omega
 have hd:dgt v.ro=0∨dgt v.ro=1:=by unfold dgt;split<;>simp
 refine⟨e0,?_,?_,?_,?_⟩
 ·unfold rdN
  rw[e0,Nat.min_eq_left h1]
  have:(volB v++Z).drop 1=padL v.name++((dig (dgt v.ro) 1++(dig v.root 2++dig v.next 4))++Z):=by
   unfold volB
   rw[List.append_assoc,List.drop_left' (q0b _ _),List.append_assoc]
  rw[this]
  unfold padL
  rw[List.append_assoc,List.take_left' (by simp)]
 ·have:volB v++Z=(dig (v.name.size:Int) 1++padL v.name)++(dig (dgt v.ro) 1++((dig v.root 2++dig v.next 4)++Z)):=by unfold volB;simp only[List.append_assoc]
  rw[this,qa0 _ _ _ 11 1 (by simp[q0b,q7x _ h1]) (q0b _ _)]
  exact q1l _ 1 (by omega) (by omega)
 ·have:volB v++Z=(dig (v.name.size:Int) 1++(padL v.name++dig (dgt v.ro) 1))++(dig v.root 2++(dig v.next 4++Z)):=by unfold volB;simp only[List.append_assoc]
  rw[this,qa0 _ _ _ 12 2 (by simp[q0b,q7x _ h1]) (q0b _ _)]
  exact q1l _ 2 h2 (by omega)
 ·have:volB v++Z=(dig (v.name.size:Int) 1++(padL v.name++(dig (dgt v.ro) 1++dig v.root 2)))++(dig v.next 4++Z):=by unfold volB;simp only[List.append_assoc]
  rw[this,qa0 _ _ _ 14 4 (by simp[q0b,q7x _ h1]) (q0b _ _)]
  exact q1l _ 4 h4 (by omega)
theorem qoa (v:Vl)(hv:v.fits)(Z:List UInt8):rdV (volB v++Z)=v∧rfV (volB v++Z)=v∧gN (volB v++Z) 0 1≤10:=by
 obtain⟨e0,e1,e2,e3,e4⟩:=qku v hv Z
 have hro:decide (gN (volB v++Z) 11 1≠0)=v.ro∧decide (gN (volB v++Z) 11 1=1)=v.ro:=by
  unfold dgt at e2
  cases hr:v.ro
  ·rw[hr] at e2
   simp at e2
   rw[e2]
   decide
  ·rw[hr] at e2
   simp at e2
   have:gN (volB v++Z) 11 1=1:=by omega
   rw[this]
   decide
 refine⟨?_,?_,by rw[e0];exact hv.1⟩
 ·unfold rdV
  rw[e1,e3,e4,hro.1]
 ·unfold rfV
  rw[e1,e3,e4,hro.2]
theorem qob {S:Sp}(h:S.may=true):∀j,j<8→(S.at_ j).fits:=fun j hj=>by
 have hp:=(q0y h).1
 rcases qcb ((q0y h).2 j hj) with e|⟨h1,h2,h3⟩
 ·rw[e]
  exact⟨by show 0≤10;omega,⟨by show (0:Int)≤0;omega,by show (0:Int)<65536;omega⟩,by show (0:Int)≤0;omega,by show (0:Int)<4294967296;omega⟩
 ·exact⟨(qg9 h1).2,⟨by omega,by omega⟩,by omega,by omega⟩
theorem qra (S:Sp)(hn:∀j,j<8→(S.at_ j).name.size≤10)(Z:List UInt8){k:Nat}(hk:k<8):∃R,(bodyB S++Z).drop (4+18*k)=volB (S.at_ k)++R:=by
 have hl:k<S.vols.length:=by rw[S.len];exact hk
 have e:bodyB S=bodyTo S k++(volB (S.at_ k)++(S.vols.drop (k+1)).flatMap volB):=by
  unfold bodyB bodyTo
  have h:=S.get hk
  rw[List.getElem?_eq_getElem hl] at h
  have h2:S.vols.take 8=S.vols.take k++(S.at_ k::S.vols.drop (k+1)):=by
   rw[←Option.some.inj h,List.getElem_cons_drop,List.take_append_drop,List.take_of_length_le (by rw[S.len];omega)]
  rw[h2,List.flatMap_append,List.flatMap_cons]
  simp only[List.append_assoc]
 rw[e,List.append_assoc,List.drop_left' (bodyTo_len S k (by omega) hn),List.append_assoc]
 exact⟨_,rfl⟩
theorem qkv (S:Sp)(h:S.may=true)(Z:List UInt8):(gN (bodyB S++Z) 0 2:Int)=S.sectors∧(gN (bodyB S++Z) 2 2:Int)=S.log:=by
 have hp:=(q0y h).1
 have e:bodyB S++Z=[]++(dig S.sectors 2++(dig S.log 2++((S.vols.take 8).flatMap volB++Z))):=by unfold bodyB bodyTo;simp only[List.append_assoc,List.nil_append]
 have e2:bodyB S++Z=dig S.sectors 2++(dig S.log 2++((S.vols.take 8).flatMap volB++Z)):=by rw[e,List.nil_append]
 constructor
 ·rw[e,qa0 _ _ _ 0 2 rfl (q0b _ _)]
  exact q1l _ 2 (by omega) (by omega)
 ·rw[e2,qa0 _ _ _ 2 2 (q0b _ _) (q0b _ _)]
  exact q1l _ 2 (by omega) (by omega)
theorem qbf {S:Sp}{slot:Int}(h:swOk S slot=true):okB (swB S slot)=true∧opH (swB S slot)=hdS S slot∧rdL (swB S slot)=S∧rfL (swB S slot)=S∧(∀k,k<8→gN ((opB (swB S slot)).drop (4+18*k)) 0 1≤10):=by
 have hm:S.may=true:=by unfold swOk at h;rw[Bool.and_eq_true] at h;exact h.1
 have hk:=qjs h
 have hl:(bodyB S).length≤236:=by rw[q5p hm];omega
 obtain⟨o1,o2,o3⟩:=q42 (hdS S slot) (bodyB S) hk hl
 have hB:=(q9p h).2.1
 rw[hB]
 have hn:=q49 hm
 have hf:=qob hm
 obtain⟨g1,g2⟩:=qkv S hm (List.replicate (236-(bodyB S).length) 0)
 have hv:∀k,k<8→rdV ((opB (blkL (hdS S slot) (bodyB S))).drop (4+18*k))=S.at_ k∧rfV ((opB (blkL (hdS S slot) (bodyB S))).drop (4+18*k))=S.at_ k∧gN ((opB (blkL (hdS S slot) (bodyB S))).drop (4+18*k)) 0 1≤10:=fun k hk=>by
  rw[o2]
  obtain⟨R,e⟩:=qra S hn (List.replicate (236-(bodyB S).length) 0) hk
  rw[e]
  exact qoa _ (hf k hk) R
 have hvols:∀f:List UInt8→Vl,(∀k,k<8→f ((opB (blkL (hdS S slot) (bodyB S))).drop (4+18*k))=S.at_ k)→(List.range 8).map (fun i=>if i<8 then f ((opB (blkL (hdS S slot) (bodyB S))).drop (4+18*i)) else Vl.zero)=S.vols:=fun f hf=>by
  refine List.ext_getElem (by simp[S.len]) fun i h1 h2=>?_
  have hi:i<8:=by simpa using h1
  simp only[List.getElem_map,List.getElem_range]
  rw[if_pos hi,hf i hi]
  have:=S.get hi
  rw[List.getElem?_eq_getElem h2] at this
  exact (Option.some.inj this).symm
 refine⟨qfu _ _ hk hl,o1,?_,?_,fun k hk=>(hv k hk).2.2⟩
 ·refine Sp.ext' ?_ ?_ ?_ ?_
  ·show (opH (blkL (hdS S slot) (bodyB S))).gen=S.gen
   rw[o1];rfl
  ·show (gN (opB (blkL (hdS S slot) (bodyB S))) 0 2:Int)=S.sectors
   rw[o2];exact g1
  ·show (gN (opB (blkL (hdS S slot) (bodyB S))) 2 2:Int)=S.log
   rw[o2];exact g2
  ·exact hvols rdV fun k hk=>(hv k hk).1
 ·refine Sp.ext' ?_ ?_ ?_ ?_
  ·show (opH (blkL (hdS S slot) (bodyB S))).gen=S.gen
   rw[o1];rfl
  ·show (gN (opB (blkL (hdS S slot) (bodyB S))) 0 2:Int)=S.sectors
   rw[o2];exact g1
  ·show (gN (opB (blkL (hdS S slot) (bodyB S))) 2 2:Int)=S.log
   rw[o2];exact g2
  ·exact hvols rfV fun k hk=>(hv k hk).2.1
def rfOk (l:List UInt8)(slot:Int):Bool:=okB l&&(swOk (rfL l) slot&&decide (swB (rfL l) slot=l))
theorem q7p {l:List UInt8}{slot:Int}(h:srOk l slot=true):okB l=true∧swOk (rdL l) slot=true∧l=swB (rdL l) slot:=by
 unfold srOk at h
 rw[Bool.and_eq_true,Bool.and_eq_true] at h
 exact⟨h.1,h.2.1,of_decide_eq_true h.2.2⟩
theorem qbg {l:List UInt8}{slot:Int}(h:srOk l slot=true):(∀k,k<8→gN ((opB l).drop (4+18*k)) 0 1≤10)∧rfL l=rdL l:=by
 obtain⟨_,h1,h2⟩:=q7p h
 obtain⟨_,_,_,h4,h5⟩:=qbf h1
 rw[←h2] at h4 h5
 exact⟨h5,h4⟩
theorem qt4 {l:List UInt8}{slot:Int}:rfOk l slot=srOk l slot:=by
 rw[Bool.eq_iff_iff]
 constructor
 ·intro h
  unfold rfOk at h
  rw[Bool.and_eq_true,Bool.and_eq_true] at h
  obtain⟨h0,h1,h2⟩:=h
  have h2:=of_decide_eq_true h2
  have h3:=(qbf h1).2.2.1
  rw[h2] at h3
  unfold srOk
  rw[h0,h3,h1,h2]
  simp
 ·intro h
  obtain⟨h0,h1,h2⟩:=q7p h
  have h3:=(qbg h).2
  unfold rfOk
  rw[h0,h3,h1,←h2]
  simp
theorem rf_S {l:List UInt8}{slot:Int}(h:srOk l slot=true):srS l slot=rfL l:=by rw[(q9z h).1,(qbg h).2]
theorem qa1 {S:Sp}{slot:Int}(h:swOk S slot=true):srOk (swB S slot) slot=true∧srS (swB S slot) slot=S:=by
 obtain⟨h0,_,h2,_⟩:=qbf h
 have hk:srOk (swB S slot) slot=true:=by
  unfold srOk
  rw[h0,h2,h]
  simp
 exact⟨hk,by rw[(q9z hk).1,h2]⟩
theorem qgq {l:List UInt8}{slot:Int}:(srS l slot).gen=0∧srE l slot=3∧srOk l slot=false∨1≤(srS l slot).gen∧srE l slot=0∧srOk l slot=true:=by
 cases h:srOk l slot
 ·obtain⟨h1,h2⟩:=q8n h
  exact .inl ⟨by rw[h1];rfl,h2,rfl⟩
 ·obtain⟨h1,h2⟩:=q9z h
  have h3:=(q7p h).2.1
  unfold swOk at h3
  rw[Bool.and_eq_true] at h3
  exact .inr ⟨by rw[h1];exact (q0y h3.1).1.1,h2,rfl⟩
def snK (a b:List UInt8):Nat:=if srOk a 0=false∧srOk b 1=false then 2 else if (srS a 0).gen<(srS b 1).gen then 1 else 0
def snS (a b:List UInt8):Sp:=if snK a b=2 then Sp.zero else if snK a b=1 then srS b 1 else srS a 0
def snI (a b:List UInt8):Int:=if snK a b=1 then 1 else 0
def snE (a b:List UInt8):Int:=if snK a b=2 then 27 else 0
theorem sn_2 {a b:List UInt8}(h1:srOk a 0=false)(h2:srOk b 1=false):snS a b=Sp.zero∧snI a b=0∧snE a b=27:=by
 have:snK a b=2:=if_pos ⟨h1,h2⟩
 unfold snS snI snE
 rw[this]
 exact⟨rfl,rfl,rfl⟩
theorem sn_1 {a b:List UInt8}(h1:¬(srOk a 0=false∧srOk b 1=false))(h2:(srS a 0).gen<(srS b 1).gen):snS a b=srS b 1∧snI a b=1∧snE a b=0:=by
 have:snK a b=1:=by unfold snK;rw[if_neg h1,if_pos h2]
 unfold snS snI snE
 rw[this]
 exact⟨rfl,rfl,rfl⟩
theorem sn_0 {a b:List UInt8}(h1:¬(srOk a 0=false∧srOk b 1=false))(h2:¬(srS a 0).gen<(srS b 1).gen):snS a b=srS a 0∧snI a b=0∧snE a b=0:=by
 have:snK a b=0:=by unfold snK;rw[if_neg h1,if_neg h2]
 unfold snS snI snE
 rw[this]
 exact⟨rfl,rfl,rfl⟩
section
def areaAt (n:Nat)(g:Int):Nat:=2+areaN n*(g % 2).toNat
def cntH (n:Nat)(g:Int)(i:Nat):Hd:=⟨2,((areaAt n g+i:Nat):Int),0,0,g⟩
def areaL (C:Ct)(g:Int):List (List UInt8):=(List.range (areaN C.n)).map fun i=>blkL (cntH C.n g i) (C.body (i:Int))
def genOk (g:Int):Prop:=1≤g∧g≤1099511627775
theorem q1i {n:Nat}(h1:32≤n)(h2:n≤2048)(g:Int){i:Nat}(hi:i<areaN n):2≤areaAt n g∧areaAt n g+i≤40∧areaAt n g+i<2+2*areaN n∧areaAt n g+i<n:=by
 have h0:=Int.emod_nonneg g (show (2:Int)≠0 by omega)
 have h3:=Int.emod_lt_of_pos g (show (0:Int)<2 by omega)
 have h4:areaN n≤18:=by unfold areaN;omega
 have h5:2+2*areaN n≤n:=by unfold areaN;omega
 unfold areaAt
 rcases (show (g % 2).toNat=0∨(g % 2).toNat=1 by omega) with e|e<;>rw[e]<;>omega
theorem qf5 {n:Nat}(h1:32≤n)(h2:n≤2048){g:Int}(hg:genOk g){i:Nat}(hi:i<areaN n):(cntH n g i).ok=true:=by
 have:=q1i h1 h2 g hi
 refine decide_eq_true ⟨⟨by show (1:Int)≤2;omega,by show (2:Int)≤6;omega⟩,⟨by show (0:Int)≤0;omega,by show (0:Int)≤8;omega⟩,⟨?_,?_⟩,⟨by show (0:Int)≤0;omega,by show (0:Int)≤65535;omega⟩,?_,?_⟩
 ·show (0:Int)≤((areaAt n g+i:Nat):Int);omega
 ·show ((areaAt n g+i:Nat):Int)≤2047;omega
 ·show 0≤g;exact Int.le_trans (by omega) hg.1
 ·exact hg.2
def cntOk (x:List UInt8)(a:Nat)(g:Int):Bool:=ckOk x 2 (a:Int)&&decide ((opH x).count=0∧(opH x).level=0∧(opH x).gen=g)
theorem qgr {C:Ct}(h1:32≤C.n)(h2:C.n≤2048){g:Int}(hg:genOk g){i:Nat}(hi:i<areaN C.n):cntOk (blkL (cntH C.n g i) (C.body (i:Int))) (areaAt C.n g+i) g=true∧(blkL (cntH C.n g i) (C.body (i:Int))).drop 20=C.body (i:Int):=by
 have hk:=qf5 h1 h2 hg hi
 have hl:(C.body (i:Int)).length≤236:=by rw[Ct.body_len hi];exact Nat.le_refl _
 refine⟨?_,?_⟩
 ·unfold cntOk
  rw[q9g _ _ hk hl,(q42 _ _ hk hl).1,Bool.and_eq_true]
  exact⟨decide_eq_true ⟨rfl,rfl⟩,decide_eq_true ⟨rfl,rfl,rfl⟩⟩
 ·rw[q7w _ _ hl,Ct.body_len hi]
  simp
def mtS (f:Nat→List UInt8):Sp:=snS (f 0) (f 1)
def mtB (f:Nat→List UInt8)(n:Nat)(g:Int):List (List UInt8):=(List.range (areaN n)).map fun i=>(f (areaAt n g+i)).drop 20
def mtC (f:Nat→List UInt8)(n:Nat)(g:Int):Ct:=loadC n (mtB f n g)
open Classical in
noncomputable def mtE (f:Nat→List UInt8) (off:Bool) (n:Nat):Int:=
 if off=true then 4 else if ¬(snE (f 0) (f 1)=0∧(mtS f).sectors=(n:Int)) then 27 else if ¬((∀i,i<areaN n→cntOk (f (areaAt n (mtS f).gen+i)) (areaAt n (mtS f).gen+i) (mtS f).gen=true)∧loadE (n:Int) (mtB f n (mtS f).gen)=0) then 5 else 0
theorem qkw {S:Sp}(hm:S.may=true){f:Nat→List UInt8}(h0:f (S.gen % 2).toNat=swB S (S.gen % 2))(h1:(srS (f ((S.gen+1) % 2).toNat) ((S.gen+1) % 2)).gen<S.gen):mtS f=S∧snE (f 0) (f 1)=0:=by
 have hb:=Int.emod_nonneg S.gen (show (2:Int)≠0 by omega)
 have hb2:=Int.emod_lt_of_pos S.gen (show (0:Int)<2 by omega)
 have hok:swOk S (S.gen % 2)=true:=by unfold swOk;rw[hm,Bool.true_and];exact decide_eq_true ⟨hb,by omega⟩
 obtain⟨hw,hS⟩:=qa1 hok
 rcases (show S.gen % 2=0∨S.gen % 2=1 by omega) with e|e
 ·have e':(S.gen+1) % 2=1:=by omega
  rw[e] at h0 hw hS
  rw[e'] at h1
  replace h0:f 0=swB S 0:=h0
  replace h1:(srS (f 1) 1).gen<S.gen:=h1
  have h:=sn_0 (a:=f 0) (b:=f 1) (fun hh=>by rw[h0,hw] at hh;cases hh.1) (by rw[h0,hS];omega)
  exact⟨by unfold mtS;rw[h.1,h0,hS],h.2.2⟩
 ·have e':(S.gen+1) % 2=0:=by omega
  rw[e] at h0 hw hS
  rw[e'] at h1
  replace h0:f 1=swB S 1:=h0
  replace h1:(srS (f 0) 0).gen<S.gen:=h1
  have h:=sn_1 (a:=f 0) (b:=f 1) (fun hh=>by rw[h0,hw] at hh;cases hh.2) (by rw[h0,hS];exact h1)
  exact⟨by unfold mtS;rw[h.1,h0,hS],h.2.2⟩
theorem qrb {S:Sp}(hm:S.may=true){C:Ct}(hC:C.ok)(hr:C.res)(hn:S.sectors=(C.n:Int)){f:Nat→List UInt8}(h0:f (S.gen % 2).toNat=swB S (S.gen % 2))(h1:(srS (f ((S.gen+1) % 2).toNat) ((S.gen+1) % 2)).gen<S.gen)
  (h2:∀i,i<areaN C.n→f (areaAt C.n S.gen+i)=blkL (cntH C.n S.gen i) (C.body (i:Int))):mtE f false C.n=0∧mtS f=S∧mtC f C.n S.gen=C.commit:=by
 obtain⟨hS,hE⟩:=qkw hm h0 h1
 have hg:genOk S.gen:=by
  have:=(q0y hm).1
  exact⟨this.1,this.2.1⟩
 have hB:mtB f C.n S.gen=C.bodies:=by
  unfold mtB Ct.bodies
  refine List.map_congr_left fun i hi=>?_
  have hi':=List.mem_range.1 hi
  rw[h2 i hi',(qgr hC.1.1 hC.1.2 hg hi').2]
 obtain⟨b1,b2⟩:=Ct.back_loads hC hr
 refine⟨?_,hS,by unfold mtC;rw[hB,b2]⟩
 unfold mtE
 rw[hS,if_neg (by decide),if_neg (fun h=>h ⟨hE,hn⟩),if_neg (fun h=>h ⟨fun i hi=>by rw[h2 i hi];exact (qgr hC.1.1 hC.1.2 hg hi).1,by rw[hB];exact b1⟩)]
def datH (k:Int)(a:Nat)(m:Nat)(g:Int):Hd:=⟨k,(a:Int),(m:Int),0,g⟩
def datOk (x:List UInt8)(k:Int)(a:Nat)(most:Nat):Bool:=ckOk x k (a:Int)&&(decide ((opH x).level=0∧(opH x).count≤(most:Int))&&allZ ((x.drop 20).drop (opH x).count.toNat))
def datL (x:List UInt8):List UInt8:=(x.drop 20).take (opH x).count.toNat
theorem qd8 (m:Nat):allZ (List.replicate m 0)=true:=by
 unfold allZ
 simp
theorem qkx (slot:Int):srOk (List.replicate 256 0) slot=false:=by
 have h:okB (List.replicate 256 0)=false:=by
  cases hk:okB (List.replicate 256 0)
  ·rfl
  ·obtain⟨_,_,h3,_⟩:=of_decide_eq_true hk
   have:(hdOf (((List.replicate 256 (0:UInt8)).drop 4).take 11)).ok=false:=by decide
   rw[this] at h3
   cases h3
 unfold srOk
 rw[h,Bool.false_and]
end
def q0g:List UInt8:=List.replicate 256 0
def fmtA (_n:Nat):List Stp:=[.w 0 q0g,.w 1 q0g,.fl]
def fmtB (n:Nat):List Stp:=wAt (areaAt n 1) (areaL (Ct.zero n) 1)++[.fl]
def fmtS (n:Nat):Sp:=sp0 1 (n:Int) 0
def fmtC (n:Nat):List Stp:=[.w 1 (swB (fmtS n) 1),.fl]
def fmtL (n:Nat):List Stp:=fmtA n++(fmtB n++fmtC n)
theorem q10 (C:Ct)(g:Int):(areaL C g).length=areaN C.n:=by unfold areaL;simp
theorem qbh (C:Ct)(g:Int){i:Nat}(hi:i<areaN C.n):(areaL C g).getD i []=blkL (cntH C.n g i) (C.body (i:Int)):=by
 unfold areaL
 rw[List.getD_eq_getElem?_getD,List.getElem?_map,List.getElem?_range hi]
 rfl
theorem qd9 {C:Ct}(_h1:32≤C.n)(_h2:C.n≤2048){g:Int}(_hg:genOk g){x:List UInt8}(hx:x∈areaL C g):x.length=256:=by
 unfold areaL at hx
 rw[List.mem_map] at hx
 obtain⟨i,hi,rfl⟩:=hx
 exact q68 _ _ (by rw[Ct.body_len (List.mem_range.1 hi)];exact Nat.le_refl _)
theorem q3q {n:Nat}(h1:32≤n)(h2:n≤2048):(fmtS n).may=true:=by
 refine qbx ?_ fun j hj=>?_
 ·unfold Sp.hd fmtS sp0
  exact decide_eq_true ⟨by show (1:Int)≤1;omega,by show (1:Int)≤1099511627775;omega,by show (32:Int)≤(n:Int);omega,by show (n:Int)≤2048;omega,by show (0:Int)≤0;omega,by show (0:Int)≤(n:Int)-1;omega⟩
 ·have e:(fmtS n).at_ j=Vl.zero:=by
   unfold Sp.at_ fmtS sp0
   rw[List.getD_eq_getElem?_getD,List.getElem?_replicate]
   split<;>rfl
  have hz:Vl.zero.same Vl.zero=true:=by simp[Vl.same]
  unfold Sp.ok1
  rw[e,hz,Bool.true_or]
theorem qt5 {n:Nat}(h1:32≤n)(h2:n≤2048):∀a∈fmtL n,a.ok n:=by
 intro a ha
 have hz:q0g.length=256:=by unfold q0g;rw[List.length_replicate]
 unfold fmtL fmtA fmtB fmtC at ha
 rw[List.mem_append,List.mem_append,List.mem_append] at ha
 rcases ha with ha|(ha|ha)|ha
 ·simp at ha
  rcases ha with rfl|rfl|rfl
  ·exact⟨by omega,hz⟩
  ·exact⟨by omega,hz⟩
  ·trivial
 ·cases a with
  |w s x=>
   obtain⟨i,hi,e1,e2⟩:=qb2 ha
   rw[q10,Ct.zero_n] at hi
   have:=q1i h1 h2 1 hi
   refine⟨by omega,?_⟩
   rw[e2]
   have hi':i<(areaL (Ct.zero n) 1).length:=by rw[q10,Ct.zero_n];exact hi
   refine qd9 (C:=Ct.zero n) (by rw[Ct.zero_n];exact h1) (by rw[Ct.zero_n];exact h2) (g:=1) ⟨by omega,by omega⟩ ?_
   rw[List.getD_eq_getElem?_getD,List.getElem?_eq_getElem hi']
   exact List.getElem_mem hi'
  |fl=>trivial
 ·simp at ha
  subst ha
  trivial
 ·simp at ha
  rcases ha with rfl|rfl
  ·refine⟨by omega,?_⟩
   have hok:swOk (fmtS n) 1=true:=by unfold swOk;rw[q3q h1 h2,Bool.true_and];decide
   unfold swB
   rw[if_pos hok]
   exact q68 _ _ (by rw[q5p (q3q h1 h2)];omega)
  ·trivial
theorem qky {n:Nat}:(fmtL n).length=areaN n+6:=by
 unfold fmtL fmtA fmtB fmtC
 rw[List.length_append,List.length_append,List.length_append,q4d,q10,Ct.zero_n]
 simp
 omega
theorem qkz {n:Nat}(h1:32≤n)(h2:n≤2048)(d:Nat→List UInt8):lastW 0 (fmtL n) (d 0)=q0g∧lastW 1 (fmtL n) (d 1)=swB (fmtS n) 1∧∀i,i<areaN n→lastW (areaAt n 1+i) (fmtL n) (d (areaAt n 1+i))=blkL (cntH n 1 i) ((Ct.zero n).body (i:Int)):=by
 have hsp:∀s,s<2→spares s (wAt (areaAt n 1) (areaL (Ct.zero n) 1)):=fun s hs=>q6l (.inl (by unfold areaAt;omega))
 unfold fmtL fmtA fmtB fmtC
 refine⟨?_,?_,fun i hi=>?_⟩
 ·rw[q0m,q0m,q0m,q18 (hsp 0 (by omega))]
  rfl
 ·rw[q0m,q0m]
  rfl
 ·have hi':i<(areaL (Ct.zero n) 1).length:=by rw[q10,Ct.zero_n];exact hi
  have h:=q1i h1 h2 1 hi
  rw[q0m,q0m,q0m,qch _ _ _ _ hi',qbh _ _ (by rw[Ct.zero_n];exact hi),Ct.zero_n]
  exact q18 (s:=areaAt n 1+i) (l:=[Stp.w 1 (swB (fmtS n) 1),.fl]) (fun t x hx=>by simp at hx;omega) _
inductive Bk where
 |node (N:Nd)
 |bytes (k:Int) (l:List UInt8)
def Bk.out (b:Bk)(a:Nat)(g:Int):List UInt8:=match b with
 |.node N=>writeB N (a:Int) g
 |.bytes k l=>blkL (datH k a l.length g) l
def Bk.fine (b:Bk):Prop:=∀(a:Nat) (g:Int),a≤2047→genOk g→(b.out a g).length=256
structure Pl where
 S:Sp
 C:Ct
 L:Nat→Option Bk
def Pl.g (P:Pl):Int:=P.S.gen+1
def Pl.newA (P:Pl)(a:Nat):Option (Nat × List UInt8):=match P.L a with
 |some b=>if P.C.get (a:Int)=0 then none else some (a,b.out a P.g)
 |none=>none
def Pl.new (P:Pl):List (Nat × List UInt8):=(List.range P.C.n).filterMap P.newA
def Pl.sup (P:Pl):Sp:=⟨P.g,P.S.sectors,P.S.log,P.S.vols,P.S.len⟩
def Pl.blocks (P:Pl):List Stp:=wIn P.new++wAt (areaAt P.C.n P.g) (areaL P.C P.g)
def Pl.steps (P:Pl):List Stp:=cmtL P.blocks (P.g % 2).toNat (swB P.sup (P.g % 2))
def Pl.done (P:Pl):Pl:=⟨P.sup,P.C.commit,fun _=>none⟩
structure Pl.ok (P:Pl):Prop where
 c:P.C.ok
 res:P.C.res
 may:P.S.may=true
 sec:P.S.sectors=(P.C.n:Int)
 gen:P.S.gen<1099511627775
 fine:∀a b,P.L a=some b→b.fine
theorem Pl.ok.genOk {P:Pl}(h:P.ok):Go.Proofs.YtipejjgodnnkaaaGreatDoor.genOk P.g:=by
 have:=(q0y h.may).1
 exact⟨by unfold Pl.g;omega,by have:=h.gen;unfold Pl.g;omega⟩
theorem Pl.ok.supMay {P:Pl}(h:P.ok):P.sup.may=true:=by
 obtain⟨h1,h2⟩:=q0y h.may
 have hg:=h.genOk
 refine qbx (decide_eq_true ⟨hg.1,hg.2,h1.2.2⟩) fun j hj=>?_
 have h3:P.S.ok1 j=true:=by
  have hm:=h.may
  unfold Sp.may at hm
  rw[Bool.and_eq_true,List.all_eq_true] at hm
  exact hm.2 j (List.mem_range.2 hj)
 exact h3
theorem q8o {P:Pl}{a:Nat}{x:List UInt8}:(a,x)∈P.new↔a<P.C.n∧∃b,P.L a=some b∧¬P.C.get (a:Int)=0∧x=b.out a P.g:=by
 unfold Pl.new
 rw[List.mem_filterMap]
 constructor
 ·rintro⟨c,hc,hn⟩
  unfold Pl.newA at hn
  cases hL:P.L c with
  |none=>rw[hL] at hn;cases hn
  |some b=>
   rw[hL] at hn
   dsimp only at hn
   split at hn
   ·cases hn
   ·rename_i hg
    injection hn with hn
    injection hn with e1 e2
    subst e1
    exact⟨List.mem_range.1 hc,b,hL,hg,e2.symm⟩
 ·rintro⟨ha,b,hL,hg,rfl⟩
  refine⟨a,List.mem_range.2 ha,?_⟩
  unfold Pl.newA
  rw[hL]
  dsimp only
  rw[if_neg hg]
theorem q8p {P:Pl}(h:P.ok){a:Nat}{x:List UInt8}(hx:(a,x)∈P.new):a<P.C.n∧P.C.first≤a:=by
 obtain⟨h1,b,_,hg,_⟩:=q8o.1 hx
 have:=(Ct.get_res h.res hg).2.2
 rw[Int.toNat_natCast] at this
 exact⟨h1,this⟩
theorem qf6 (g:Int):(g % 2).toNat<2∧((g % 2).toNat:Int)=g % 2:=by omega
theorem Pl.steps_ok {P:Pl}(h:P.ok):∀s∈P.steps,s.ok P.C.n:=by
 intro s hs
 have hn:=h.c.1
 have hg:=h.genOk
 have hsl:=qf6 P.g
 unfold Pl.steps cmtL Pl.blocks at hs
 rw[List.mem_append,List.mem_append] at hs
 rcases hs with (hs|hs)|hs
 ·cases s with
  |fl=>trivial
  |w a x=>
   unfold wIn at hs
   rw[List.mem_map] at hs
   obtain⟨⟨a',x'⟩,hb,e⟩:=hs
   injection e with e1 e2
   dsimp only at e1 e2
   subst e1 e2
   obtain⟨h1,b,hL,_,rfl⟩:=q8o.1 hb
   exact⟨h1,h.fine _ _ hL _ _ (by omega) hg⟩
 ·cases s with
  |fl=>trivial
  |w a x=>
   obtain⟨i,hi,e1,e2⟩:=qb2 hs
   have hi2:=hi
   rw[q10] at hi2
   have:=q1i hn.1 hn.2 P.g hi2
   refine⟨by omega,?_⟩
   rw[e2,List.getD_eq_getElem?_getD,List.getElem?_eq_getElem hi]
   exact qd9 hn.1 hn.2 hg (List.getElem_mem hi)
 ·simp at hs
  rcases hs with rfl|rfl|rfl
  ·trivial
  ·refine⟨by omega,?_⟩
   have hok:swOk P.sup (P.g % 2)=true:=by unfold swOk;rw[h.supMay,Bool.true_and];exact decide_eq_true ⟨by omega,by omega⟩
   unfold swB
   rw[if_pos hok]
   exact q68 _ _ (by rw[q5p h.supMay];omega)
  ·trivial
theorem Pl.steps_len (P:Pl):P.steps.length=P.new.length+areaN P.C.n+3:=by
 unfold Pl.steps
 rw[qqs]
 unfold Pl.blocks wIn
 rw[List.length_append,List.length_map,q4d,q10]
theorem Pl.blocks_spare {P:Pl}(_h:P.ok){s:Nat}(h1:∀x,(s,x)∉P.new)(h2:s<areaAt P.C.n P.g∨areaAt P.C.n P.g+areaN P.C.n≤s):spares s P.blocks:=by
 have a1:spares s (wIn P.new):=q9t fun b hb e=>h1 b.2 (by rw[←e];exact hb)
 have a2:spares s (wAt (areaAt P.C.n P.g) (areaL P.C P.g)):=q6l (by rw[q10];exact h2)
 intro t x hx
 unfold Pl.blocks at hx
 rcases List.mem_append.1 hx with hx|hx
 ·exact a1 t x hx
 ·exact a2 t x hx
theorem Pl.slot_spare {P:Pl}(h:P.ok){s:Nat}(hs:s<2):spares s P.blocks:=by
 refine Pl.blocks_spare h (fun x hx=>?_) (.inl (by unfold areaAt;omega))
 have:=(q8p h hx).2
 unfold Ct.first at this
 omega
theorem Pl.blocks_area {P:Pl}(_h:P.ok){i:Nat}(hi:i<areaN P.C.n)(d:List UInt8):lastW (areaAt P.C.n P.g+i) P.blocks d=blkL (cntH P.C.n P.g i) (P.C.body (i:Int)):=by
 unfold Pl.blocks
 rw[q0m,qch _ _ _ _ (by rw[q10];exact hi),qbh _ _ hi]
theorem Pl.blocks_new {P:Pl}(h:P.ok){a:Nat}{b:Bk}(ha:a<P.C.n)(hL:P.L a=some b)(hg:¬P.C.get (a:Int)=0)(d:List UInt8):lastW a P.blocks d=b.out a P.g:=by
 have hm:(a,b.out a P.g)∈P.new:=q8o.2 ⟨ha,b,hL,hg,rfl⟩
 have hn:=h.c.1
 have hf:=(q8p h hm).2
 have hsp:spares a (wAt (areaAt P.C.n P.g) (areaL P.C P.g)):=q6l (by
  rw[q10]
  right
  by_cases h0:0<areaN P.C.n
  ·have:=q1i hn.1 hn.2 P.g (i:=areaN P.C.n-1) (by omega)
   unfold Ct.first at hf
   omega
  ·have:areaN P.C.n=0:=by omega
   exfalso
   unfold areaN at this
   omega)
 unfold Pl.blocks
 rw[q0m,qci a _ _ _ hm fun y hy=>by
  obtain⟨_,b',hL',_,e⟩:=q8o.1 hy
  rw[hL] at hL'
  injection hL' with e'
  rw[e,←e'],q18 hsp]
structure Holds0 (P:Pl)(S0:Sp)(C0:Ct)(f:Nat→List UInt8):Prop where
 may:S0.may=true
 gen:S0.gen=P.S.gen
 sec:S0.sectors=(P.C.n:Int)
 c:C0.ok
 res:C0.res
 n:C0.n=P.C.n
 slot:f (P.S.gen % 2).toNat=swB S0 (P.S.gen % 2)
 other:(srS (f ((P.S.gen+1) % 2).toNat) ((P.S.gen+1) % 2)).gen<P.S.gen
 area:∀i,i<areaN P.C.n→f (areaAt P.C.n P.S.gen+i)=blkL (cntH P.C.n P.S.gen i) (C0.body (i:Int))
def QRow (w:World)(base:Nat)(A:Option Addr)(n c:Nat)(ls:List (List UInt8)):Prop:=
 ∃raw,OwnS w base 30 1 A n c raw∧raw.length=ls.length∧∀(j:Nat) r l,raw[j]?=some r→ls[j]?=some l→∃V p q,r=[.slice V p q]∧Sl w V p q l∧∀g,q02 V=some g→base≤g∧g<w.heap.size∧q02 A≠some g
section
variable {w w':World}{base n c:Nat}{A:Option Addr}{ls:List (List UInt8)}
theorem QRow.prow (h:QRow w base A n c ls):PRow w base A n c ls:=by
 obtain⟨raw,h1,h2,h3⟩:=h
 refine⟨raw,h1,h2,fun j r l hr hl=>?_⟩
 obtain⟨V,p,q,e,hs,hg⟩:=h3 j r l hr hl
 exact⟨V,p,q,e,hs,fun g hg'=>(hg g hg').2⟩
theorem QRow.turned (h:QRow w base A n c ls){S:Nat→Prop}(T:Turn S w w')(hS:∀k,S k→k<base):QRow w' base A n c ls:=by
 obtain⟨raw,h1,h2,h3⟩:=h
 have hz:=T.size
 refine⟨raw,h1.turned T (fun k hk hs=>by have:=(h1.blockLt k hk).1;have:=hS k hs;omega),h2,fun j r l hr hl=>?_⟩
 obtain⟨V,p,q,e,hs,hg⟩:=h3 j r l hr hl
 exact⟨V,p,q,e,hs.turned T fun k hk hs=>by have:=(hg k hk).1;have:=hS k hs;omega,fun g hg'=>⟨(hg g hg').1,by have:=(hg g hg').2.1;omega,(hg g hg').2.2⟩⟩
theorem QRow.below (h:QRow w base A n c ls)(hb:Below w.heap.size w w'):QRow w' base A n c ls:=h.turned (S:=fun _=>False) (q00 hb |>.mono fun _ hk=>hk) fun _ hk=>hk.elim
end
theorem qgs {D:DM}{a:List Stp}(b:List Stp)(h:¬D.runE a=0):D.runE (a++b)=D.runE a∧D.runD (a++b)=D.runD a:=by
 rw[q13,q14,if_neg h,if_neg h]
 exact⟨rfl,rfl⟩
theorem qrc (D:DM)(a:Stp):D.runE [a]=D.says a∧D.runD [a]=D.does a:=by
 show (if D.says a=0 then (0:Int) else D.says a)=_∧(if D.says a=0 then D.does a else D.does a)=_
 constructor
 ·split
  ·rename_i h;exact h.symm
  ·rfl
 ·split<;>rfl
theorem q8q {D:DM}{a:List Stp}{x:Stp}(h:D.runE a=0):D.runE (a++[x])=(D.runD a).says x∧D.runD (a++[x])=(D.runD a).does x:=by
 rw[q13,q14,if_pos h,if_pos h]
 exact qrc _ _
theorem qrd {D:DM}{m:Nat}(h:D.ok m)(a:Stp):(D.does a).ok (m+1):=by
 cases a with
 |w s x=>exact qo4 h s x
 |fl=>exact qo5 h
theorem q5g (l:List Stp):∀{D:DM} {m:Nat},D.ok m→(D.runD l).ok (m+l.length):=by
 induction l with
 |nil=>intro D m h;exact h
 |cons a l ih=>
  intro D m h
  show (if D.says a=0 then (D.does a).runD l else D.does a).ok (m+(l.length+1))
  have h1:=qrd h a
  split
  ·have:=ih h1
   rwa [show m+(l.length+1)=m+1+l.length by omega]
  ·exact⟨by have:=h1.1;omega,fun k=>by have:=h1.2 k;omega⟩
theorem q2t {w:World}{rp:Nat}{S:Nat→Prop}{D:DM}(L0:RDrv w rp S D)(at_ base:Nat)(A:Option Addr)(n c:Nat)(ls:List (List UInt8))(H:QRow w base A n c ls)(hS:∀k,S k→k<base)(hn:n≤1000)(hat:at_≤100000){m:Nat}(hok:D.ok m)(hm:m≤100000) :
  Calls Tryz.prog 71 #[.pointer (some ⟨rp,0,none⟩),.int .i64 (at_:Int),.slice A n c] w fun e w'=>e=.returned (.int .i64 (D.runE (wAt at_ ls++[.fl])))∧RDrv w' rp (fun k=>S k∨w.heap.size≤k) (D.runD (wAt at_ ls++[.fl]))∧Turn S w w':=by
 have hlen:=H.prow.len
 have Hlen:=Lib.hid hlen
 have HH:=Lib.hid H
 have HS:=Lib.hid hS
 have Hok:=Lib.hid hok
 have hcap:n≤c∧c≤maxLen:=⟨H.prow.parts.2.1,H.prow.parts.2.2.1⟩
 unfold maxLen at hcap
 clear H hS hok hlen
 go_enter Tryz.func71,Tryz.ntmps71
 go_wp2_with fail
 go_loopw [7,8] (fun i _ wr=>∃j:Nat,j≤n∧i=.int .i64 (j:Int)∧D.runE ((wAt at_ ls).take j)=0∧RDrv wr rp (fun k=>S k∨w.heap.size≤k) (D.runD ((wAt at_ ls).take j))∧Turn S w wr) (fun i _ _=>n-(intOf i).toNat)
 case atStart=>exact⟨0,Nat.zero_le _,rfl,rfl,by obtain⟨ro,oc,iv,vs,L⟩:=L0;exact⟨ro,oc,iv,vs,L.mono fun _ _ h=>.inl h⟩,Turn.refl _ _⟩
 case round=>
  clear L0
  obtain⟨j,hj,rfl,hE,R,T⟩:=hrel
  by_cases hlt:j<n
  ·have e3:(j:Int)<(n:Int):=by omega
   have e0:(0:Int)≤(j:Int):=by omega
   have Pp:=(HH.out.turned T HS.out).prow.parts
   obtain⟨ad,B,q,d,rfl,hbl,hcell,hsl⟩:=Pp.cell hlt
   obtain⟨s,hs⟩:∃s,at_+j=s:=⟨_,rfl⟩
   have hat2:(at_:Int)+(j:Int)=(s:Int):=by omega
   have hat3:s≤200000:=by omega
   obtain⟨ok1,ok2⟩:=q5g ((wAt at_ ls).take j) Hok.out
   have hlj:((wAt at_ ls).take j).length≤1000:=by rw[List.length_take];omega
   have hst:(D.runD ((wAt at_ ls).take j)).steps≤1000000000:=by omega
   have hcl:∀k,((D.runD ((wAt at_ ls).take j)).cac k).length≤999999:=fun k=>by have:=ok2 k;omega
   have hnx:=q8q (D:=D) (x:=.w s (nth ls j)) hE
   have htk:(wAt at_ ls).take (j+1)=(wAt at_ ls).take j++[.w s (nth ls j)]:=by rw[←hs];exact qgd at_ ls (by rw[Hlen.out];exact hlt)
   rw[←htk] at hnx
   have Hnx:=Lib.hid hnx
   have W:=q9x R (s:Int) B q d (nth ls j) hsl hst hcl
   have Hst:=Lib.hid (show wAt at_ ls=(wAt at_ ls).take (j+1)++(wAt at_ ls).drop (j+1) from (List.take_append_drop _ _).symm)
   generalize D.runD ((wAt at_ ls).take j)=D1 at W R Hnx
   have hW:D1.writeE (s:Int) (nth ls j)=D.runE ((wAt at_ ls).take (j+1)):=Hnx.out.1.symm
   have hW2:D1.writeD (s:Int) (nth ls j)=D.runD ((wAt at_ ls).take (j+1)):=Hnx.out.2.symm
   rw[hW,hW2] at W
   have HW:=Lib.hid W
   clear W hW hW2 ok1 ok2 hst hcl hnx htk Hnx R hE hs
   go_wp2_with fail
   refine HW.out.mono ?_
   rintro e w4 ⟨rfl,R4,T4⟩
   have T5:=T.trans T4 fun k hk=>hk
   have hz:=T.size
   have R5:RDrv w4 rp (fun k=>S k∨w.heap.size≤k) (D.runD ((wAt at_ ls).take (j+1))):=by
    obtain⟨ro,oc,iv,vs,L⟩:=R4
    exact⟨ro,oc,iv,vs,L.mono fun k _ h=>h.elim id fun h=>.inr (by omega)⟩
   clear R4 T4 T HW
   obtain⟨E,hEE⟩:∃E,D.runE ((wAt at_ ls).take (j+1))=E:=⟨_,rfl⟩
   rw[hEE]
   have HE:=Lib.hid hEE
   clear hEE
   by_cases h0:E=0
   ·subst h0
    go_wp2
    exact⟨⟨j+1,by omega,by go_num,HE.out,R5,T5⟩,by simp[intOf];omega⟩
   ·have hb:(E==0)=false:=by simpa using h0
    have hs1:=qgs (D:=D) (a:=(wAt at_ ls).take (j+1)) ((wAt at_ ls).drop (j+1)++[.fl]) (by rw[HE.out];exact h0)
    rw[←List.append_assoc,←Hst.out,HE.out] at hs1
    have Hs1:=Lib.hid hs1
    clear hs1
    go_wp2
    go_ret
    rw[Hs1.out.1,Hs1.out.2]
    exact⟨rfl,R5,T5⟩
  ·have hjn:j=n:=by omega
   subst hjn
   have e3:¬(j:Int)<(j:Int):=by omega
   have hall:(wAt at_ ls).take j=wAt at_ ls:=List.take_of_length_le (by rw[q4d,Hlen.out];exact Nat.le_refl _)
   rw[hall] at hE R
   have hnx:=q8q (D:=D) (x:=.fl) hE
   obtain⟨ok1,ok2⟩:=q5g (wAt at_ ls) Hok.out
   have hlj:(wAt at_ ls).length≤1000:=by rw[q4d,Hlen.out];exact hn
   have F:=qih R (by omega)
   have hF:(D.runD (wAt at_ ls)).err=D.runE (wAt at_ ls++[.fl]):=hnx.1.symm
   have hF2:(D.runD (wAt at_ ls)).flushD=D.runD (wAt at_ ls++[.fl]):=hnx.2.symm
   rw[hF,hF2] at F
   have HFF:=Lib.hid F
   clear F hF hF2 hnx ok1 ok2 R hE hall
   go_wp2_with fail
   refine HFF.out.mono ?_
   rintro e w4 ⟨rfl,R4,T4⟩
   have T5:=T.trans T4 fun k hk=>hk
   have hz:=T.size
   go_wp2
   go_ret
   obtain⟨ro,oc,iv,vs,L⟩:=R4
   exact⟨rfl,⟨ro,oc,iv,vs,L.mono fun k _ h=>h.elim id fun h=>.inr (by omega)⟩,T5⟩
end Go.Proofs.YtipejjgodnnkaaaGreatDoor
