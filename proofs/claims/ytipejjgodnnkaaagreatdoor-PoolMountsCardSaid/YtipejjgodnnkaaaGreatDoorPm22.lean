/- A drive that is on its way through a law: what is kept of the caller's memory, call by cal -/
import Derived.Test.YtipejjgodnnkaaaGreatDoorPm14
namespace Go.Proofs.YtipejjgodnnkaaaGreatDoor
open Go Go.RowKit Go.Proofs
set_option maxHeartbeats 2000000
set_option maxRecDepth 100000
structure Kp (B:Nat)(X:Nat→Prop)(w w':World):Prop where
 os:w'.os=w.os
 tape:w'.tape=w.tape
 output:w'.output=w.output
 size:w.heap.size≤w'.heap.size
 block:∀k,k<w.heap.size→(k<B∨X k)→w'.heap[k]?=w.heap[k]?
section
variable {B:Nat}{X X':Nat→Prop}{w w' w'':World}
theorem Kp.refl (B:Nat)(X:Nat→Prop)(w:World):Kp B X w w:=⟨rfl,rfl,rfl,Nat.le_refl _,fun _ _ _=>rfl⟩
theorem Kp.trans (h:Kp B X w w')(k:Kp B X w' w''):Kp B X w w'':=
 ⟨k.os.trans h.os,k.tape.trans h.tape,k.output.trans h.output,Nat.le_trans h.size k.size,fun i hi hx=>(k.block i (Nat.lt_of_lt_of_le hi h.size) hx).trans (h.block i hi hx)⟩
theorem Kp.mono (h:Kp B X w w')(hs:∀x,x<w.heap.size→X' x→X x):Kp B X' w w':=⟨h.os,h.tape,h.output,h.size,fun k hk hx=>h.block k hk (hx.imp id (hs k hk))⟩
theorem Kp.below (h:Kp B X w w')(hB:B≤w.heap.size):Below B w w':=⟨h.os,h.tape,h.output,h.size,fun k hk=>h.block k (by omega) (.inl hk)⟩
theorem Kp.sl {A:Option Addr}{n c:Nat}{l:List UInt8}(h:Kp B X w w')(s:Sl w A n c l)(ha:∀ad,A=some ad→ad.block<B∨X ad.block):Sl w' A n c l:=
 ⟨s.1,s.2.1,s.2.2.1,fun j u hu=>by
  obtain⟨ad,e,hb,hc⟩:=s.2.2.2 j u hu
  refine⟨ad,e,by have:=h.size;omega,?_⟩
  exact (World.cell?_of_block (w:=w) (w':=w') (a:=ad.add j) (by rw[q0n];exact h.block _ hb (ha ad e))).trans hc⟩
theorem Kp.cell {p:Addr}(h:Kp B X w w')(hp:p.block<w.heap.size)(hx:p.block<B∨X p.block):w'.cell? p=w.cell? p:=World.cell?_of_block (w:=w) (h.block p.block hp hx)
end
def Hold (w:World)(X:Nat→Prop)(A:Option Addr)(n:Nat)(l:List UInt8):Prop:=Sl w A n n l∧∀ad,A=some ad→X ad.block
section
variable {B:Nat}{X X':Nat→Prop}{w w':World}{A:Option Addr}{n:Nat}{l:List UInt8}
theorem Hold.below (h:Hold w X A n l)(k:Below w.heap.size w w'):Hold w' X A n l:=⟨h.1.below k,h.2⟩
theorem Hold.more (h:Hold w X A n l)(hx:∀k,X k→X' k):Hold w X' A n l:=⟨h.1,fun ad ha=>hx _ (h.2 ad ha)⟩
end
def Run (w:World)(B:Nat)(X:Nat→Prop)(bp:Nat)(D:DM):Prop:=B≤w.heap.size∧(∀k,X k→k<w.heap.size)∧∃S,Drv w bp S D∧∀k,S k→k<w.heap.size→B≤k∧¬X k
section
variable {B:Nat}{X:Nat→Prop}{w w':World}{bp:Nat}{D D':DM}
theorem Drv.keep {S:Nat→Prop}(h:Drv w bp S D)(hk:∀k,k<w.heap.size→S k→w'.heap[k]?=w.heap[k]?):Drv w' bp S D:=by
 obtain⟨bd,bm,l,c,v,L⟩:=h
 exact⟨bd,bm,l,c,v,L.keep hk⟩
theorem Drv.mono {S S':Nat→Prop}(h:Drv w bp S D)(hk:∀k,k<w.heap.size→S k→S' k):Drv w bp S' D:=by
 obtain⟨bd,bm,l,c,v,L⟩:=h
 exact⟨bd,bm,l,c,v,L.mono hk⟩
theorem Run.turned {S S':Nat→Prop}(hB:B≤w.heap.size)(hX:∀k,X k→k<w.heap.size)(hS:∀k,S k→k<w.heap.size→B≤k∧¬X k)(L:Drv w' bp S' D')(T:Turn S w w')(hS':∀k,S' k→S k∨w.heap.size≤k):Run w' B X bp D'∧Kp B X w w':=by
 have hsz:=T.size
 refine⟨⟨by omega,fun k hk=>by have:=hX k hk;omega,S',L,fun k hk hlt=>?_⟩,⟨T.os,T.tape,T.output,hsz,fun k hk hx=>T.block k hk fun h=>?_⟩⟩
 ·by_cases h1:k<w.heap.size
  ·rcases hS' k hk with h|h
   ·exact hS k h h1
   ·omega
  ·exact⟨by omega,fun h=>by have:=hX k h;omega⟩
 ·have:=hS k h hk
  rcases hx with h1|h1
  ·omega
  ·exact this.2 h1
theorem Run.below {X':Nat→Prop}(h:Run w B X bp D)(hb:Below w.heap.size w w')(hX:∀k,X' k→X k∨(w.heap.size≤k∧k<w'.heap.size)):Run w' B X' bp D:=by
 obtain⟨h1,h2,S,h3,h4⟩:=h
 have hsz:=hb.size
 refine⟨by omega,fun k hk=>?_,fun k=>S k∧k<w.heap.size,(h3.mono fun k hk h=>⟨h,hk⟩).keep fun k hk _=>hb.block k hk,fun k hk _=>?_⟩
 ·rcases hX k hk with h|h
  ·have:=h2 k h;omega
  ·exact h.2
 ·obtain⟨h5,h6⟩:=h4 k hk.1 hk.2
  refine⟨h5,fun h=>?_⟩
  rcases hX k h with h|h
  ·exact h6 h
  ·omega
theorem Run.same (h:Run w B X bp D)(hb:Below w.heap.size w w'):Run w' B X bp D:=h.below hb fun _=>.inl
def DM.ok (D:DM)(m:Nat):Prop:=D.steps≤m∧∀k,(D.cac k).length≤m
theorem DM.ok.mono {D:DM}{m m':Nat}(h:D.ok m)(hm:m≤m'):D.ok m':=⟨by have:=h.1;omega,fun k=>by have:=h.2 k;omega⟩
theorem qbc {D:DM}{m:Nat}(h:D.ok m):D.stepD.ok (m+1):=⟨by have:=h.1;unfold DM.stepD;dsimp only;split<;>omega,fun k=>by have:=h.2 k;show (D.cac k).length≤_;omega⟩
theorem qo4 {D:DM}{m:Nat}(h:D.ok m)(s:Int)(x:List UInt8):(D.writeD s x).ok (m+1):=by
 unfold DM.writeD
 split
 ·exact h.mono (by omega)
 split
 ·exact qbc h
 ·refine⟨(qbc h).1,fun k=>?_⟩
  show (upd D.cac s.toNat (D.cac s.toNat++[x]) k).length≤m+1
  by_cases hk:k=s.toNat
  ·subst hk;rw[q0a,List.length_append];have:=h.2 s.toNat;simp;omega
  ·rw[q05 _ _ hk];have:=h.2 k;omega
theorem qo5 {D:DM}{m:Nat}(h:D.ok m):(D.flushD).ok (m+1):=by
 unfold DM.flushD
 split
 ·exact qbc h
 ·exact⟨(qbc h).1,fun k=>by simp[DM.flush]⟩
end
def DM.all (D:DM)(s:Nat):List (List UInt8):=D.dur s::D.cac s
def RIRow (w:World)(v:Value)(vs:List Value):Prop:=∃g o c,v=.slice (some ⟨g,o,none⟩) vs.length c∧vs.length≤c∧c≤maxLen∧w.rangeAt g o vs∧w.there g o c
def BRow (w:World)(v:Value)(l:List UInt8):Prop:=∃g o c,v=.slice (some ⟨g,o,none⟩) 256 c∧256≤c∧c≤maxLen∧l.length=256∧w.rangeAt g o (bvs l)∧w.there g o 256
section
variable {w w':World}{v:Value}{vs:List Value}{l:List UInt8}
theorem RIRow.keep (h:RIRow w v vs)(hk:∀g,v.ownBlock=some g→w'.heap[g]?=w.heap[g]?):RIRow w' v vs:=by
 obtain⟨g,o,c,rfl,h1,h2,h3,h4⟩:=h
 exact⟨g,o,c,rfl,h1,h2,q22 h3 (hk g rfl),q3g h4 (hk g rfl)⟩
theorem BRow.keep (h:BRow w v l)(hk:∀g,v.ownBlock=some g→w'.heap[g]?=w.heap[g]?):BRow w' v l:=by
 obtain⟨g,o,c,rfl,h1,h2,h3,h4,h5⟩:=h
 exact⟨g,o,c,rfl,h1,h2,h3,q22 h4 (hk g rfl),q3g h5 (hk g rfl)⟩
theorem BRow.lt (h:BRow w v l){g:Nat}(hg:v.ownBlock=some g):g<w.heap.size:=by
 obtain⟨g',o,c,rfl,_,_,_,_,h5⟩:=h
 cases hg
 obtain⟨u,hu⟩:=Option.isSome_iff_exists.1 (h5 0 (by omega)).1
 exact World.block_lt_of_cell? w _ hu
theorem RIRow.lt (h:RIRow w v vs)(hv:0<vs.length){g:Nat}(hg:v.ownBlock=some g):g<w.heap.size:=by
 obtain⟨g',o,c,rfl,h1,_,_,h4⟩:=h
 cases hg
 obtain⟨u,hu⟩:=Option.isSome_iff_exists.1 (h4 0 (by omega)).1
 exact World.block_lt_of_cell? w _ hu
theorem BRow.sl (h:BRow w v l):∃A c,v=.slice A 256 c∧Sl w A 256 c l:=by
 obtain⟨g,o,c,rfl,h1,h2,h3,h4,h5⟩:=h
 have hg:=BRow.lt (w:=w) (v:=.slice (some ⟨g,o,none⟩) 256 c) (l:=l) ⟨g,o,c,rfl,h1,h2,h3,h4,h5⟩ rfl
 have:=qbu h4 hg (by omega) h2
 rw[h3] at this
 exact⟨_,c,rfl,this⟩
end
structure RLay (w:World)(rp ro oc:Nat)(iv:Nat→Value)(vs:Nat→List Value)(S:Nat→Prop)(D:DM):Prop where
 me:w.heap[rp]?=some (.cells #[.slice (some ⟨ro,0,none⟩) D.n oc,.bool D.off,.bool D.fused,.int .i64 D.left,.int .i64 D.steps] 52 (0,0))
 out:∀s,s<D.n→w.cell? ⟨ro,s,none⟩=some (iv s)∧w.frozen? ⟨ro,s,none⟩=false
 irow:∀s,s<D.n→RIRow w (iv s) (vs s)
 len:∀s,s<D.n→(vs s).length=(D.all s).length
 brow:∀s,s<D.n→∀(i:Nat) (v:Value) (l:List UInt8),(vs s)[i]?=some v→(D.all s)[i]?=some l→BRow w v l
 off:∀s,D.n≤s→D.cac s=[]
 inS:S rp∧S ro∧(∀s,s<D.n→∀g,(iv s).ownBlock=some g→S g)∧∀s,s<D.n→∀v∈vs s,∀g,v.ownBlock=some g→S g
 ne:rp≠ro∧(∀s,s<D.n→∀g,(iv s).ownBlock=some g→g≠rp∧g≠ro)∧∀s,s<D.n→∀v∈vs s,∀g,v.ownBlock=some g→g≠rp∧g≠ro∧∀z,z<D.n→(iv z).ownBlock≠some g
 isep:∀s s' g,s<D.n→s'<D.n→(iv s).ownBlock=some g→(iv s').ownBlock=some g→s=s'
 bsep:∀s s' (i i':Nat) (v v':Value) (g:Nat),s<D.n→s'<D.n→(vs s)[i]?=some v→(vs s')[i']?=some v'→v.ownBlock=some g→v'.ownBlock=some g→s=s'∧i=i'
 n32:sectors D.n
 left:D.left≤9223372036854775807
def RDrv (w:World)(rp:Nat)(S:Nat→Prop)(D:DM):Prop:=∃ro oc iv vs,RLay w rp ro oc iv vs S D
section
variable {w w':World}{rp ro oc:Nat}{iv:Nat→Value}{vs:Nat→List Value}{S:Nat→Prop}{D:DM}
theorem RLay.pos (L:RLay w rp ro oc iv vs S D):0<D.n:=by have:=L.n32;unfold sectors at this;omega
theorem RLay.rolt (L:RLay w rp ro oc iv vs S D):ro<w.heap.size:=World.block_lt_of_cell? w _ (L.out 0 L.pos).1
theorem RLay.vpos (L:RLay w rp ro oc iv vs S D){s:Nat}(hs:s<D.n):0<(vs s).length:=by rw[L.len s hs];simp[DM.all]
theorem RLay.ilt (L:RLay w rp ro oc iv vs S D){s g:Nat}(hs:s<D.n)(hg:(iv s).ownBlock=some g):g<w.heap.size:=(L.irow s hs).lt (L.vpos hs) hg
theorem RLay.b_at (L:RLay w rp ro oc iv vs S D){s:Nat}(hs:s<D.n){v:Value}(hv:v∈vs s):∃(i:Nat) (l:List UInt8),(vs s)[i]?=some v∧(D.all s)[i]?=some l∧BRow w v l:=by
 obtain⟨i,hi,rfl⟩:=List.getElem_of_mem hv
 have hl:i<(D.all s).length:=by rw[←L.len s hs];exact hi
 exact⟨i,(D.all s)[i],List.getElem?_eq_getElem hi,List.getElem?_eq_getElem hl,L.brow s hs i _ _ (List.getElem?_eq_getElem hi) (List.getElem?_eq_getElem hl)⟩
theorem RLay.blt (L:RLay w rp ro oc iv vs S D){s g:Nat}(hs:s<D.n){v:Value}(hv:v∈vs s)(hg:v.ownBlock=some g):g<w.heap.size:=by
 obtain⟨i,l,_,_,h⟩:=L.b_at hs hv
 exact h.lt hg
theorem RLay.keep (L:RLay w rp ro oc iv vs S D)(hk:∀k,k<w.heap.size→S k→w'.heap[k]?=w.heap[k]?):RLay w' rp ro oc iv vs S D:=by
 have e1:=hk rp (q01 L.me) L.inS.1
 have e2:=hk ro L.rolt L.inS.2.1
 exact⟨e1.trans L.me,fun s hs=>⟨(World.cell?_of_block (w:=w) (w':=w') (a:=⟨ro,s,none⟩) e2).trans (L.out s hs).1,(World.frozen?_of_block (w:=w) (w':=w') (a:=⟨ro,s,none⟩) e2).trans (L.out s hs).2⟩,
  fun s hs=>(L.irow s hs).keep fun g hg=>hk g (L.ilt hs hg) (L.inS.2.2.1 s hs g hg),L.len,
  fun s hs i v l hv hl=>(L.brow s hs i v l hv hl).keep fun g hg=>hk g ((L.brow s hs i v l hv hl).lt hg) (L.inS.2.2.2 s hs v (List.mem_of_getElem? hv) g hg),L.off,L.inS,L.ne,L.isep,L.bsep,L.n32,L.left⟩
theorem RLay.mono {S':Nat→Prop}(L:RLay w rp ro oc iv vs S D)(h:∀k,k<w.heap.size→S k→S' k):RLay w rp ro oc iv vs S' D:=
 ⟨L.me,L.out,L.irow,L.len,L.brow,L.off,⟨h _ (q01 L.me) L.inS.1,h _ L.rolt L.inS.2.1,fun s hs g hg=>h g (L.ilt hs hg) (L.inS.2.2.1 s hs g hg),fun s hs v hv g hg=>h g (L.blt hs hv hg) (L.inS.2.2.2 s hs v hv g hg)⟩,L.ne,L.isep,L.bsep,L.n32,L.left⟩
theorem RLay.struct (L:RLay w rp ro oc iv vs S D)(off fused:Bool)(left steps:Nat)(hl:left≤9223372036854775807)
  (h1:w'.heap[rp]?=some (.cells #[.slice (some ⟨ro,0,none⟩) D.n oc,.bool off,.bool fused,.int .i64 left,.int .i64 steps] 52 (0,0)))
  (h2:∀k,k<w.heap.size→k≠rp→w'.heap[k]?=w.heap[k]?):RLay w' rp ro oc iv vs S { D with off:=off,fused:=fused,left:=left,steps:=steps }:=by
 have e2:=h2 ro L.rolt (fun e=>L.ne.1 e.symm)
 exact⟨h1,fun s hs=>⟨(World.cell?_of_block (w:=w) (w':=w') (a:=⟨ro,s,none⟩) e2).trans (L.out s hs).1,(World.frozen?_of_block (w:=w) (w':=w') (a:=⟨ro,s,none⟩) e2).trans (L.out s hs).2⟩,
  fun s hs=>(L.irow s hs).keep fun g hg=>h2 g (L.ilt hs hg) (L.ne.2.1 s hs g hg).1,L.len,
  fun s hs i v l hv hl=>(L.brow s hs i v l hv hl).keep fun g hg=>h2 g ((L.brow s hs i v l hv hl).lt hg) (L.ne.2.2 s hs v (List.mem_of_getElem? hv) g hg).1,L.off,L.inS,L.ne,L.isep,L.bsep,L.n32,hl⟩
theorem RLay.setRow (L:RLay w rp ro oc iv vs S D)(s:Nat)(hs:s<D.n){S':Nat→Prop}(iv1:Value)(vs1:List Value)(d1:List UInt8)(c1:List (List UInt8))
  (hS:∀k,k<w.heap.size→S k→S' k)
  (h1:∀k,k<w.heap.size→k≠ro→(iv s).ownBlock≠some k→w'.heap[k]?=w.heap[k]?)
  (ho:∀z,z<D.n→w'.cell? ⟨ro,z,none⟩=some (upd iv s iv1 z)∧w'.frozen? ⟨ro,z,none⟩=false)
  (hi:RIRow w' iv1 vs1) (hlen:vs1.length=c1.length+1) (hb:∀(i:Nat) (v:Value) (l:List UInt8),vs1[i]?=some v→(d1::c1)[i]?=some l→BRow w' v l)
  (hat:(iv1.ownBlock=(iv s).ownBlock)∨∃g,iv1.ownBlock=some g∧w.heap.size≤g∧S' g)
  (hbat:∀v∈vs1,∀g,v.ownBlock=some g→v∈vs s∨(w.heap.size≤g∧S' g∧iv1.ownBlock≠some g))
  (hinj:∀(i i':Nat) (v v':Value) (g:Nat),vs1[i]?=some v→vs1[i']?=some v'→v.ownBlock=some g→v'.ownBlock=some g→i=i') :
  RLay w' rp ro oc (upd iv s iv1) (upd vs s vs1) S' { D with dur:=upd D.dur s d1,cac:=upd D.cac s c1 }:=by
 have e1:=h1 rp (q01 L.me) L.ne.1 (fun e=>(L.ne.2.1 s hs rp e).1 rfl)
 have hall:∀z,({ D with dur:=upd D.dur s d1,cac:=upd D.cac s c1 }:DM).all z=if z=s then d1::c1 else D.all z:=fun z=>by
  unfold DM.all
  by_cases h:z=s
  ·subst h;simp[upd]
  ·simp[upd,h]
 have hiv:∀z,z<D.n→∀g,(upd iv s iv1 z).ownBlock=some g→(z≠s∧(iv z).ownBlock=some g)∨(z=s∧((iv s).ownBlock=some g∨(w.heap.size≤g∧S' g))):=fun z hz g hg=>by
  by_cases h:z=s
  ·subst h
   rw[q0a] at hg
   rcases hat with e|⟨g',e,e2,e3⟩
   ·exact .inr ⟨rfl,.inl (e▸hg)⟩
   ·rw[e] at hg;cases hg;exact .inr ⟨rfl,.inr ⟨e2,e3⟩⟩
  ·rw[q05 _ _ h] at hg;exact .inl ⟨h,hg⟩
 have hbv:∀z,z<D.n→∀v∈upd vs s vs1 z,∀g,v.ownBlock=some g→v∈vs z∨(z=s∧w.heap.size≤g∧S' g∧iv1.ownBlock≠some g):=fun z hz v hv g hg=>by
  by_cases h:z=s
  ·subst h
   rw[q0a] at hv
   rcases hbat v hv g hg with e|e
   ·exact .inl e
   ·exact .inr ⟨rfl,e⟩
  ·rw[q05 _ _ h] at hv;exact .inl hv
 have hrlt:=L.rolt
 have hplt:=q01 L.me
 refine⟨e1.trans L.me,ho,fun z hz=>?_,fun z hz=>?_,fun z hz i v l hv hl=>?_,fun z hz=>?_,⟨hS _ hplt L.inS.1,hS _ hrlt L.inS.2.1,fun z hz g hg=>?_,fun z hz v hv g hg=>?_⟩,
  ⟨L.ne.1,fun z hz g hg=>?_,fun z hz v hv g hg=>?_⟩,fun z z' g hz hz' hg hg'=>?_,fun z z' i i' v v' g hz hz' hv hv' hg hg'=>?_,L.n32,L.left⟩
 ·by_cases h:z=s
  ·subst h;rw[q0a,q0a];exact hi
  ·rw[q05 _ _ h,q05 _ _ h]
   exact (L.irow z hz).keep fun g hg=>h1 g (L.ilt hz hg) (L.ne.2.1 z hz g hg).2 fun e=>h (L.isep z s g hz hs hg e)
 ·rw[hall]
  by_cases h:z=s
  ·subst h;rw[q0a,if_pos rfl,hlen];simp
  ·rw[q05 _ _ h,if_neg h];exact L.len z hz
 ·rw[hall] at hl
  by_cases h:z=s
  ·subst h;rw[q0a] at hv;rw[if_pos rfl] at hl;exact hb i v l hv hl
  ·rw[q05 _ _ h] at hv;rw[if_neg h] at hl
   have hm:=List.mem_of_getElem? hv
   exact (L.brow z hz i v l hv hl).keep fun g hg=>h1 g (L.blt hz hm hg) (L.ne.2.2 z hz v hm g hg).2.1 ((L.ne.2.2 z hz v hm g hg).2.2 s hs)
 ·show upd D.cac s c1 z=[]
  have:D.n≤z:=hz
  rw[q05 _ _ (by omega)];exact L.off z hz
 ·rcases hiv z hz g hg with⟨_,h⟩|⟨_,h|h⟩
  ·exact hS g (L.ilt hz h) (L.inS.2.2.1 z hz g h)
  ·exact hS g (L.ilt hs h) (L.inS.2.2.1 s hs g h)
  ·exact h.2
 ·rcases hbv z hz v hv g hg with h|⟨_,_,h,_⟩
  ·exact hS g (L.blt hz h hg) (L.inS.2.2.2 z hz v h g hg)
  ·exact h
 ·rcases hiv z hz g hg with⟨_,h⟩|⟨_,h|h⟩
  ·exact L.ne.2.1 z hz g h
  ·exact L.ne.2.1 s hs g h
  ·omega
 ·rcases hbv z hz v hv g hg with h|⟨rfl,h,_,h3⟩
  ·have hlt:=L.blt hz h hg
   obtain⟨a,b,c⟩:=L.ne.2.2 z hz v h g hg
   refine⟨a,b,fun y hy e=>?_⟩
   rcases hiv y hy g e with⟨_,e2⟩|⟨_,e2|e2⟩
   ·exact c y hy e2
   ·exact c s hs e2
   ·omega
  ·refine⟨by omega,by omega,fun y hy e=>?_⟩
   rcases hiv y hy g e with⟨_,e2⟩|⟨hy2,_⟩
   ·have:=L.ilt hy e2;omega
   ·rw[hy2,q0a] at e;exact h3 e
 ·rcases hiv z hz g hg with⟨a,b⟩|⟨a,b⟩<;>rcases hiv z' hz' g hg' with⟨c,d⟩|⟨c,d⟩
  ·exact L.isep z z' g hz hz' b d
  ·rcases d with d|d
   ·rw[c];exact L.isep z s g hz hs b d
   ·have:=L.ilt hz b;omega
  ·rcases b with b|b
   ·rw[a];exact L.isep s z' g hs hz' b d
   ·have:=L.ilt hz' d;omega
  ·rw[a,c]
 ·have m1:=List.mem_of_getElem? hv
  have m2:=List.mem_of_getElem? hv'
  by_cases h:z=s
  ·by_cases h':z'=s
   ·subst h;subst h'
    rw[q0a] at hv hv'
    exact⟨rfl,hinj i i' v v' g hv hv' hg hg'⟩
   ·exfalso
    rw[q05 _ _ h'] at hv' m2
    have hlt:=L.blt hz' m2 hg'
    rcases hbv z hz v m1 g hg with e|⟨_,e,_⟩
    ·obtain⟨j,hj,ej⟩:=List.getElem_of_mem e
     exact h' ((L.bsep z z' j i' v v' g hz hz' (by rw[←ej];exact List.getElem?_eq_getElem hj) hv' hg hg').1.symm.trans h)
    ·omega
  ·by_cases h':z'=s
   ·exfalso
    rw[q05 _ _ h] at hv m1
    have hlt:=L.blt hz m1 hg
    rcases hbv z' hz' v' m2 g hg' with e|⟨_,e,_⟩
    ·obtain⟨j,hj,ej⟩:=List.getElem_of_mem e
     exact h ((L.bsep z z' i j v v' g hz hz' hv (by rw[←ej];exact List.getElem?_eq_getElem hj) hg hg').1.trans h')
    ·omega
   ·rw[q05 _ _ h] at hv;rw[q05 _ _ h'] at hv'
    exact L.bsep z z' i i' v v' g hz hz' hv hv' hg hg'
end
section
variable {w:World}{rp ro oc:Nat}{iv:Nat→Value}{vs:Nat→List Value}{S:Nat→Prop}{D:DM}
theorem RLay.c0 (L:RLay w rp ro oc iv vs S D):w.cell? ⟨rp,0,none⟩=some (.slice (some ⟨ro,0,none⟩) D.n oc):=by rw[cell_of_row w rp 0 _ _ _ L.me];rfl
theorem RLay.c1 (L:RLay w rp ro oc iv vs S D):w.cell? ⟨rp,1,none⟩=some (.bool D.off):=by rw[cell_of_row w rp 1 _ _ _ L.me];rfl
theorem RLay.c2 (L:RLay w rp ro oc iv vs S D):w.cell? ⟨rp,2,none⟩=some (.bool D.fused):=by rw[cell_of_row w rp 2 _ _ _ L.me];rfl
theorem RLay.c3 (L:RLay w rp ro oc iv vs S D):w.cell? ⟨rp,3,none⟩=some (.int .i64 D.left):=by rw[cell_of_row w rp 3 _ _ _ L.me];rfl
theorem RLay.c4 (L:RLay w rp ro oc iv vs S D):w.cell? ⟨rp,4,none⟩=some (.int .i64 D.steps):=by rw[cell_of_row w rp 4 _ _ _ L.me];rfl
theorem RLay.fz (L:RLay w rp ro oc iv vs S D)(j:Nat):w.frozen? ⟨rp,j,none⟩=false:=by simp[World.frozen?,L.me]
theorem RLay.off1 (L:RLay w rp ro oc iv vs S D)(b:Bool):RLay (w.setCell ⟨rp,1,none⟩ (.bool b)) rp ro oc iv vs S { D with off:=b }:=
 L.struct b D.fused D.left D.steps L.left (by rw[q0f _ L.me];rfl) fun k _ hn=>Below.heap_setCell _ _ _ _ hn
theorem RLay.left1 (L:RLay w rp ro oc iv vs S D)(n:Nat)(hn:n≤9223372036854775807){x:Int}(hx:x=(n:Int)):RLay (w.setCell ⟨rp,3,none⟩ (.int .i64 x)) rp ro oc iv vs S { D with left:=n }:=by
 subst hx
 exact L.struct D.off D.fused n D.steps hn (by rw[q0f _ L.me];rfl) fun k _ hn=>Below.heap_setCell _ _ _ _ hn
theorem RLay.steps1 (L:RLay w rp ro oc iv vs S D)(n:Nat){x:Int}(hx:x=(n:Int)):RLay (w.setCell ⟨rp,4,none⟩ (.int .i64 x)) rp ro oc iv vs S { D with steps:=n }:=by
 subst hx
 exact L.struct D.off D.fused D.left n L.left (by rw[q0f _ L.me];rfl) fun k _ hn=>Below.heap_setCell _ _ _ _ hn
theorem RLay.drew (L:RLay w rp ro oc iv vs S D):RLay w.drew rp ro oc iv vs S D:=L.keep fun _ _ _=>rfl
theorem q5t (L:RLay w rp ro oc iv vs S D)(s:Int) :
  Calls Tryz.prog 75 #[.pointer (some ⟨rp,0,none⟩),.int .i64 s] w fun e w'=>e=.returned (.bool (decide (0≤s∧s<(D.n:Int))))∧w=w':=by
 have c0:=L.c0
 go_enter Tryz.func75,Tryz.ntmps75
 by_cases h0:0≤s
 ·by_cases h1:s<(D.n:Int)
  ·go_wp2
   go_ret
   simp[h0,h1]
  ·go_wp2
   go_ret
   simp[h1]
 ·go_wp2
  go_ret
  simp
  intro;omega
theorem qd2 (L:RLay w rp ro oc iv vs S D)(hst:D.steps≤1000000000) :
  Calls Tryz.prog 127 #[.pointer (some ⟨rp,0,none⟩)] w fun e w'=>e=.returned (.int .i64 D.err)∧RLay w' rp ro oc iv vs S D.stepD∧Turn (fun k=>k=rp) w w':=by
 have c1:=L.c1
 have c2:=L.c2
 have c3:=L.c3
 have c4:=L.c4
 have f1:=L.fz 1
 have f3:=L.fz 3
 have f4:=L.fz 4
 have hle:=L.left
 obtain⟨n,dur,cac,off,fused,left,steps,cap⟩:=D
 simp only at c1 c2 c3 c4 hst hle
 cases off with
 |true=>
  rw[show (DM.stepD ⟨n,dur,cac,true,fused,left,steps,cap⟩)=⟨n,dur,cac,true,fused,left,steps,cap⟩ from rfl,show (DM.err ⟨n,dur,cac,true,fused,left,steps,cap⟩)=4 from rfl]
  go_enter Tryz.func127,Tryz.ntmps127
  go_wp2
  go_ret
  exact⟨rfl,L,Turn.refl _ _⟩
 |false=>
  cases fused with
  |true=>
   by_cases h0:left=0
   ·subst h0
    rw[show (DM.stepD ⟨n,dur,cac,false,true,0,steps,cap⟩)=⟨n,dur,cac,true,true,0,steps,cap⟩ from rfl,show (DM.err ⟨n,dur,cac,false,true,0,steps,cap⟩)=4 from rfl]
    go_enter Tryz.func127,Tryz.ntmps127
    go_wp2
    go_ret
    exact⟨rfl,L.off1 true,q19 _ _ _⟩
   ·have hs:(DM.stop ⟨n,dur,cac,false,true,left,steps,cap⟩)=false:=by simp[DM.stop,h0]
    have E1:(DM.stepD ⟨n,dur,cac,false,true,left,steps,cap⟩)=⟨n,dur,cac,false,true,left-1,steps+1,cap⟩:=by simp[DM.stepD,hs]
    have E2:(DM.err ⟨n,dur,cac,false,true,left,steps,cap⟩)=0:=by simp[DM.err,hs]
    rw[E1,E2]
    go_enter Tryz.func127,Tryz.ntmps127
    go_wp2
    go_ret
    exact⟨rfl,(L.left1 (left-1) (by omega) (by omega)).steps1 (steps+1) (by omega),(q19 _ _ _).then (q19 _ _ _)⟩
  |false=>
   rw[show (DM.stepD ⟨n,dur,cac,false,false,left,steps,cap⟩)=⟨n,dur,cac,false,false,left,steps+1,cap⟩ from rfl,show (DM.err ⟨n,dur,cac,false,false,left,steps,cap⟩)=0 from rfl]
   go_enter Tryz.func127,Tryz.ntmps127
   go_wp2
   go_ret
   exact⟨rfl,L.steps1 (steps+1) (by omega),q19 _ _ _⟩
end
theorem q1a {P:Program}{t e:TypeId}(ht:P.underlying t=some (.slice e))(he:(P.info? e).map (·.size)=some 1)(w:World)(g o n c j:Nat)(hj:j<n) :
  (Instr.indexAt t (.slice (some ⟨g,o,none⟩) n c) (.int .i64 (j:Int))).run P w=.ok (.pointer (some ⟨g,o+j,none⟩)) w:=by
 have hz:(sizeOf e).run P w=.ok 1 w:=by
  obtain⟨i,hi,hs⟩:=Option.map_eq_some_iff.1 he
  simp[sizeOf,typeInfo,hi,hs]
 have ha:(⟨g,o,none⟩:Addr).add j=⟨g,o+j,none⟩:=Addr.add_mid g o j
 simp[Instr.indexAt,asIntOf,run_underlying ht,hz,hj,ha]
theorem S64:(Tryz.prog.info? 67).map (·.size)=some 1:=by kernel_rfl
theorem S35:(Tryz.prog.info? 30).map (·.size)=some 1:=by kernel_rfl
theorem qgl (D:DM)(s:Nat):(D.all s)[(D.all s).length-1]?=some (D.newest s):=by
 unfold DM.all DM.newest
 rw[←List.getLast?_eq_getElem?,List.getLast?_cons,List.getLastD_eq_getLast?]
section
variable {w:World}{rp ro oc:Nat}{iv:Nat→Value}{vs:Nat→List Value}{S:Nat→Prop}{D:DM}
theorem RLay.last (L:RLay w rp ro oc iv vs S D){s:Nat}(hs:s<D.n):∃g o c A d,iv s=.slice (some ⟨g,o,none⟩) (vs s).length c∧(vs s).length≤c∧c≤maxLen∧w.cell? ⟨g,o+((vs s).length-1),none⟩=some (.slice A 256 d)∧
  (vs s)[(vs s).length-1]?=some (.slice A 256 d)∧Sl w A 256 d (D.newest s):=by
 obtain⟨g,o,c,hv,h1,h2,h3,h4⟩:=L.irow s hs
 have hp:=L.vpos hs
 have hk:(vs s).length-1<(vs s).length:=by omega
 have hl:(D.all s)[(vs s).length-1]?=some (D.newest s):=by rw[L.len s hs];exact qgl D s
 have hb:=L.brow s hs _ _ _ (List.getElem?_eq_getElem hk) hl
 obtain⟨A,d,hA,hsl⟩:=hb.sl
 exact⟨g,o,c,A,d,hv,h1,h2,by rw[←hA];exact h3 _ _ (List.getElem?_eq_getElem hk),by rw[←hA];exact List.getElem?_eq_getElem hk,hsl⟩
theorem q8l (L:RLay w rp ro oc iv vs S D)(s:Int) :
  Calls Tryz.prog 82 #[.pointer (some ⟨rp,0,none⟩),.int .i64 s] w fun e w'=>∃A n c,e=.returned (.tuple #[.slice A n c,.int .i64 (D.readE s)])∧Sl w' A n c (D.readL s)∧Below w.heap.size w w':=by
 have c1:=L.c1
 have c0:=L.c0
 unfold DM.readE DM.readL
 cases hoff:D.off with
 |true=>
  rw[hoff] at c1
  go_enter Tryz.func82,Tryz.ntmps82
  go_wp2
  go_ret2
  exact⟨none,0,0,rfl,q0k w,Below.refl _ _⟩
 |false=>
  rw[hoff] at c1
  have H1:=q5t L s
  by_cases hs:0≤s∧s<(D.n:Int)
  ·obtain⟨k,rfl⟩:=Int.eq_ofNat_of_zero_le hs.1
   have hk:k<D.n:=by omega
   rw[show decide (0≤(k:Int)∧(k:Int)<(D.n:Int))=true by simpa using hs] at H1
   rw[if_pos hs,if_pos hs,Int.toNat_natCast]
   simp only[Bool.false_eq_true,if_false]
   obtain⟨g,o,c,A,d,hv,hc1,hc2,hcell,_,hsl⟩:=L.last hk
   have hp:=L.vpos hk
   have hout:=(L.out k hk).1
   rw[hv] at hout
   have hix:=fun w=>q1a (P:=Tryz.prog) Tryz.underlying50 S64 w ro 0 D.n oc k hk
   simp only[Nat.zero_add] at hix
   have hlen:=hsl.len
   generalize hm:(vs k).length=m at *
   have hx2:∀w',(Instr.indexAt 67 (.slice (some ⟨g,o,none⟩) m c) (.int .i64 ((m:Int)-1))).run Tryz.prog w'=.ok (.pointer (some ⟨g,o+(m-1),none⟩)) w':=fun w'=>by
    have:=q1a (P:=Tryz.prog) Tryz.underlying67 S35 w' g o m c (m-1) (by omega)
    rw[show ((m-1:Nat):Int)=(m:Int)-1 by omega] at this
    exact this
   have hmx:m≤9223372036854775807:=by unfold maxLen at hc2;omega
   have hcell2:∀ob:Obj,(w.alloc ob).cell? ⟨g,o+(m-1),none⟩=some (.slice A 256 d):=fun ob=>by
    have:=World.block_lt_of_cell? w _ hcell
    rw[World.cell?_alloc_lt _ _ _ this];exact hcell
   go_enter Tryz.func82,Tryz.ntmps82
   go_wp2_with fail
   refine H1.mono ?_
   rintro e w1 ⟨rfl,rfl⟩
   go_wp2_with (at_builtin;refine q1q _ T22 (by rfl) _ _ (by rfl) w.heap.size w.heap.size (by rfl) (q11 w 5) A 256 d (D.newest k) (by rfl) (hsl.alloc _) (by omega) (by simp) ?_)
   intro A' c' w' hown hb
   have hb:=q2p _ (hb.mono (B':=w.heap.size) (by simp)) (Nat.le_refl _)
   go_wp2_with fail
   go_ret2
   exact⟨A',256,c',rfl,hown.sl,hb⟩
  ·rw[show decide (0≤s∧s<(D.n:Int))=false by simpa using hs] at H1
   rw[if_neg hs,if_neg hs]
   simp only[Bool.false_eq_true,if_false]
   go_enter Tryz.func82,Tryz.ntmps82
   go_wp2_with fail
   refine H1.mono ?_
   rintro e w1 ⟨rfl,rfl⟩
   go_wp2_with fail
   go_ret2
   exact⟨none,0,0,rfl,q0k w,Below.refl _ _⟩
end
theorem qd3 {w:World}{b:Nat}{c:Array Value}{t:TypeId}(h:w.heap[b]?=some (.cells c t (0,0)))(j:Nat):w.frozen? ⟨b,j,none⟩=false:=by
 unfold World.frozen?
 rw[show (⟨b,j,none⟩:Addr).block=b from rfl,h]
 simp
theorem qo6 {P:Program}{t e:TypeId}{z:Value}(ht:P.underlying t=some (.slice e))(he:(P.info? e).map (fun i=>(i.zero,i.size,i.bytes))=some (some z,1,24))(w:World)(v:Value)(vs:List Value)(h:RIRow w v vs)(hn:vs.length≤1000000)
  (a:Addr) (d:Nat) (x:Value) (hx:w.cell? a=some x) (h1:x.oneCell'=true) (hz:z.cells.size=1) (ty:TypeId) :
  ∃v' w',(Builtin.append_ #[t,t] ty #[v,.slice (some a) 1 d]).run P w=.ok v' w'∧RIRow w' v' (vs++[x])∧Turn (fun k=>v.ownBlock=some k) w w'∧(v'.ownBlock=v.ownBlock∨∃g,v'.ownBlock=some g∧w.heap.size≤g):=by
 obtain⟨i,hi,hz0,hz1,hz2⟩:=info_parts he
 obtain⟨g,o,c,rfl,hc1,hc2,h3,h4⟩:=h
 have hnews:∀(j:Nat) u,[x][j]?=some u→w.cell? (a.add j)=some u:=fun j u hu=>by
  rcases j with _|j
  ·have h0:x=u:=by simpa using hu
   rw[←h0]
   simpa [Addr.add] using hx
  ·simp at hu
 by_cases hroom:vs.length+1≤c
 ·have hth:=h4 vs.length (by omega)
  have hs0:∀j,j < [x].length→(w.cell? ⟨g,o+vs.length*i.size+j,none⟩).isSome=true∧w.frozen? ⟨g,o+vs.length*i.size+j,none⟩=false:=fun j hj=>by
   have h0:j=0:=by simpa using hj
   subst h0
   rw[hz1,Nat.mul_one,Nat.add_zero]
   exact hth
  have hrun:=run_append_room_cells (P:=P) (w:=w) t ty e i ht hi g o vs.length c a 1 d [x] (by rw[hz1];rfl) hnews (by intro u hu;rw[List.mem_singleton.1 hu];exact h1) hroom
   (fun j hj=>hs0 j hj |>.1) (fun j hj=>hs0 j hj |>.2)
  rw[hz1,Nat.mul_one] at hrun
  refine⟨_,_,hrun,⟨g,o,c,by simp,by simpa using hroom,hc2,fun j u hu=>?_,World.there_setCells h4 _ _ _⟩,(q0d (S:=fun k=>(some g)=some k) rfl _ _ _),.inl rfl⟩
  by_cases hj:j<vs.length
  ·rw[List.getElem?_append_left hj] at hu
   exact World.rangeAt_setCells_apart h3 g (o+vs.length) [x] (.inr (.inl (Nat.le_refl _))) j u hu
  ·have hj2:j=vs.length:=by
    have:=(List.getElem?_eq_some_iff.1 hu).1
    simp at this;omega
   subst hj2
   rw[List.getElem?_append_right (Nat.le_refl _),Nat.sub_self] at hu
   have:=World.rangeAt_setCells_same w g (o+vs.length) [x] (fun j hj=>by
    have h0:j=0:=by simpa using hj
    subst h0
    rw[Nat.add_zero]
    exact hth) 0 u hu
   simpa using this
 ·have hrun:=run_append_grow (P:=P) w t ty e i z ht hi hz0 ⟨g,o,none⟩ vs.length c vs (by rw[hz1];omega) (fun j u hu=>by rw[Addr.add_mid];exact h3 j u hu) a 1 d [x] (by rw[hz1];rfl) hnews (by omega) (by omega) (growslice_fits (by omega) (by rw[hz2];omega))
  have hge:=grownCap_ge w (vs.length+1) c e
  have hcap:=grownCap_le_maxLen w (vs.length+1) c e (by unfold maxLen;omega)
  have hblk:(w.drew.alloc (.cells (vs.toArray++[x].toArray++Builtin.zeroCells z.cells (grownCap w (vs.length+1) c e-(vs.length+1))) e)).heap[w.heap.size]?=some (.cells (vs.toArray++[x].toArray++Builtin.zeroCells z.cells (grownCap w (vs.length+1) c e-(vs.length+1))) e (0,0)):=heap_alloc_new w.drew _
  refine⟨_,_,hrun,⟨w.heap.size,0,_,by simp,by simpa using hge,hcap,fun j u hu=>?_,fun j hj=>⟨?_,qd3 hblk _⟩⟩,(Turn.refl _ w).drew.then (qaj _ _ _),.inr ⟨_,rfl,Nat.le_refl _⟩⟩
  ·rw[cell_of_row _ _ _ _ _ _ hblk,Nat.zero_add]
   have hj:j<vs.length+1:=by
    have:=(List.getElem?_eq_some_iff.1 hu).1
    simpa using this
   rw[Array.getElem?_append_left (by simp;omega),←hu]
   simp
  ·rw[cell_of_row _ _ _ _ _ _ hblk,Nat.zero_add]
   rw[Array.getElem?_eq_getElem (by simp[size_zeroCells,hz];omega)];rfl
theorem Q64:(Tryz.prog.info? 30).map (fun i=>(i.zero,i.size,i.bytes))=some (some (.slice none 0 0),1,24):=by kernel_rfl
theorem qo7 {w:World}{base:Nat}{A:Option Addr}{c:Nat}{l:List UInt8}(h:Own w base 5 A 256 c l):BRow w (.slice A 256 c) l∧∀g,(Value.slice A 256 c).ownBlock=some g→base≤g:=by
 have hl:=h.len
 rcases h.2 with⟨hv,h0⟩|⟨g,cap,cur,hv,h1,hg,h2,h3,h4,h5⟩
 ·omega
 ·injection hv with hA _ hc
  subst hA;subst hc
  refine⟨⟨g,0,_,rfl,h2,h3,hl,fun j u hu=>?_,fun j hj=>?_⟩,fun g' e=>by cases e;exact h1⟩
  ·rw[cell_of_row _ _ _ _ _ _ hg,Nat.zero_add]
   have hj:j<256:=by have:=(List.getElem?_eq_some_iff.1 hu).1;rw[q16] at this;omega
   have h6:(cur.toList.take (256*1))[j]?=(l.map bv)[j]?:=by rw[h5]
   rw[List.getElem?_take_of_lt (by omega),Array.getElem?_toList] at h6
   rw[h6];exact hu
  ·refine⟨?_,qd3 hg _⟩
   rw[cell_of_row _ _ _ _ _ _ hg,Nat.zero_add,Array.getElem?_eq_getElem (by omega)];rfl
section
def litE (w:World):World:=w.alloc (.cells #[] 5)
def litS (w:World)(v:Value):World:=w.alloc (.cells #[v] 30)
section
variable {w:World}{rp ro oc:Nat}{iv:Nat→Value}{vs:Nat→List Value}{S:Nat→Prop}{D:DM}
theorem RLay.append (L:RLay w rp ro oc iv vs S D)(s:Nat)(hs:s<D.n)(B:Option Addr)(d:Nat)(x:List UInt8)(hb:Sl w B 256 d x)(hcl:(D.cac s).length≤999999)(ty ty2:TypeId) :
  ∃A c wB v1 wD,(Builtin.append_ #[30,30] ty #[.slice (some ⟨w.heap.size,0,none⟩) 0 0,.slice B 256 d]).run Tryz.prog (litE w)=.ok (.slice A 256 c) wB∧
   (Builtin.append_ #[67,67] ty2 #[iv s,.slice (some ⟨wB.heap.size,0,none⟩) 1 1]).run Tryz.prog (litS wB (.slice A 256 c))=.ok v1 wD∧
   (∀k,k<w.heap.size→(litE w).heap[k]?=w.heap[k]?)∧(∀k,k<w.heap.size→wB.heap[k]?=w.heap[k]?)∧(∀k,k<w.heap.size→(litS wB (.slice A 256 c)).heap[k]?=w.heap[k]?)∧(wD.heap[rp]?=w.heap[rp]?∧wD.heap[ro]?=w.heap[ro]?)∧
   RLay (wD.setCell ⟨ro,s,none⟩ v1) rp ro oc (upd iv s v1) (upd vs s (vs s++[.slice A 256 c])) (fun k=>S k∨w.heap.size≤k) { D with cac:=upd D.cac s (D.cac s++[x]) }∧Turn S w (wD.setCell ⟨ro,s,none⟩ v1):=by
 have hbA:Below w.heap.size w (litE w):=blA
 obtain⟨A,c,wB,hrun1,hown,hbB⟩:=q54 (P:=Tryz.prog) (litE w) T22 ty w.heap.size w.heap.size (q11 w 5) B 256 d x (hb.alloc _) (by omega) (by simp[litE])
 have hsA:(litE w).heap.size=w.heap.size+1:=by simp[litE]
 have hbB':Below w.heap.size w wB:=hbA.trans (hbB.mono (by omega))
 have hsB:=hbB.size
 have hbC:Below wB.heap.size wB (litS wB (.slice A 256 c)):=blA
 have hsC:(litS wB (.slice A 256 c)).heap.size=wB.heap.size+1:=by simp[litS]
 have hbC':Below w.heap.size w (litS wB (.slice A 256 c)):=hbB'.trans (hbC.mono (by omega))
 obtain⟨hbr,hbg⟩:=qo7 hown
 have hblt:∀g,(Value.slice A 256 c).ownBlock=some g→g<wB.heap.size:=fun g hg=>hbr.lt hg
 have hir:=(L.irow s hs).keep (w':=litS wB (.slice A 256 c)) fun g hg=>hbC'.block g (L.ilt hs hg)
 have hlen:=L.len s hs
 obtain⟨v1,wD,hrun2,hir2,hT,hat⟩:=qo6 Tryz.underlying67 Q64 (litS wB (.slice A 256 c)) (iv s) (vs s) hir (by rw[hlen];simp[DM.all];omega) ⟨wB.heap.size,0,none⟩ 1 (.slice A 256 c)
  (q46 wB #[.slice A 256 c] 30 0) rfl rfl ty2
 have hsD:=hT.size
 have hrolt:=L.rolt
 have hrplt:=q01 L.me
 have old:∀k,k<w.heap.size→(iv s).ownBlock≠some k→wD.heap[k]?=w.heap[k]?:=fun k hk hn=>(hT.block k (by omega) hn).trans (hbC'.block k hk)
 have hro:wD.heap[ro]?=w.heap[ro]?:=old ro hrolt fun e=>(L.ne.2.1 s hs ro e).2 rfl
 have hrp:wD.heap[rp]?=w.heap[rp]?:=old rp hrplt fun e=>(L.ne.2.1 s hs rp e).1 rfl
 have hTE:=q0e (S:=fun k=>k=ro) (w:=wD) (a:=⟨ro,s,none⟩) v1 rfl
 have hcell:∀z,z<D.n→wD.cell? ⟨ro,z,none⟩=some (iv z):=fun z hz=>(World.cell?_of_block (w:=w) (w':=wD) (a:=⟨ro,z,none⟩) hro).trans (L.out z hz).1
 have hivlt:∀g,(iv s).ownBlock=some g→g<w.heap.size:=fun g hg=>L.ilt hs hg
 have hv1:∀g,v1.ownBlock=some g→g≠ro:=fun g hg=>by
  rcases hat with e|⟨g',e,h⟩
  ·exact (L.ne.2.1 s hs g (e▸hg)).2
  ·rw[e] at hg;cases hg;omega
 refine⟨A,c,wB,v1,wD,hrun1,hrun2,fun k hk=>hbA.block k hk,fun k hk=>hbB'.block k hk,fun k hk=>hbC'.block k hk,⟨hrp,hro⟩,?_,⟨?_,?_,?_,?_,fun k hk hn=>?_⟩⟩
 ·have hset:=L.setRow s hs (w':=wD.setCell ⟨ro,s,none⟩ v1) (S':=fun k=>S k∨w.heap.size≤k) v1 (vs s++[.slice A 256 c]) (D.dur s) (D.cac s++[x]) (fun k _ h=>.inl h)
   (fun k hk hn hv=>(hTE.block k (by omega) hn).trans (old k hk hv)) (fun z hz=>⟨?_,?_⟩) (hir2.keep fun g hg=>?_) (by rw[List.length_append,hlen];simp[DM.all]) (fun i v l hv hl=>?_) ?_ (fun v hv g hg=>?_) (fun i i' v v' g hv hv' hg hg'=>?_)
  ·rw[q7l] at hset;exact hset
  ·by_cases hzs:z=s
   ·subst hzs;rw[World.cell?_setCell_same _ _ _ (hcell z hz),q0a]
   ·rw[World.cell?_setCell_other _ _ _ _ (fun e=>hzs (by injection e with _ e2;exact e2.symm)),q05 _ _ hzs];exact hcell z hz
  ·rw[World.frozen?_setCell]
   exact (World.frozen?_of_block (w:=w) (w':=wD) (a:=⟨ro,z,none⟩) hro).trans (L.out z hz).2
  ·have hglt:g<wD.heap.size:=hir2.lt (by simp) hg
   exact hTE.block g hglt (hv1 g hg)
  ·by_cases hi:i<(vs s).length
   ·rw[List.getElem?_append_left hi] at hv
    have hl':(D.all s)[i]?=some l:=by
     rw[←hl,show (D.dur s::(D.cac s++[x]))=D.all s++[x] from rfl,List.getElem?_append_left (by omega)]
    have hm:=List.mem_of_getElem? hv
    refine (L.brow s hs i v l hv hl').keep fun g hg=>?_
    obtain⟨a,b,e⟩:=L.ne.2.2 s hs v hm g hg
    exact (hTE.block g (by have:=L.blt hs hm hg;omega) b).trans (old g (L.blt hs hm hg) (e s hs))
   ·have hi2:i=(vs s).length:=by have:=(List.getElem?_eq_some_iff.1 hv).1;simp at this;omega
    subst hi2
    rw[List.getElem?_append_right (Nat.le_refl _),Nat.sub_self] at hv
    obtain rfl:Value.slice A 256 c=v:=by simpa using hv
    have hl':x=l:=by
     rw[show (D.dur s::(D.cac s++[x]))=D.all s++[x] from rfl,hlen,List.getElem?_append_right (Nat.le_refl _),Nat.sub_self] at hl
     simpa using hl
    subst hl'
    refine hbr.keep fun g hg=>?_
    have h1:=hbg g hg
    have h2:=hblt g hg
    exact (hTE.block g (by omega) (by omega)).trans ((hT.block g (by omega) (fun e=>by have:=hivlt g e;omega)).trans (hbC.block g h2))
  ·rcases hat with e|⟨g,e,h⟩
   ·exact .inl e
   ·exact .inr ⟨g,e,by omega,.inr (by omega)⟩
  ·rcases List.mem_append.1 hv with h|h
   ·exact .inl h
   ·rw[List.mem_singleton.1 h] at hg
    have h1:=hbg g hg
    have h2:=hblt g hg
    refine .inr ⟨h1,.inr h1,fun e=>?_⟩
    rcases hat with e2|⟨g',e2,h3⟩
    ·rw[e2] at e;have:=hivlt g e;omega
    ·rw[e2] at e;cases e;omega
  ·by_cases hi:i<(vs s).length<;>by_cases hi':i'<(vs s).length
   ·rw[List.getElem?_append_left hi] at hv
    rw[List.getElem?_append_left hi'] at hv'
    exact (L.bsep s s i i' v v' g hs hs hv hv' hg hg').2
   ·exfalso
    rw[List.getElem?_append_left hi] at hv
    have hi2:i'=(vs s).length:=by have:=(List.getElem?_eq_some_iff.1 hv').1;simp at this;omega
    rw[hi2,List.getElem?_append_right (Nat.le_refl _),Nat.sub_self] at hv'
    obtain rfl:Value.slice A 256 c=v':=by simpa using hv'
    have:=L.blt hs (List.mem_of_getElem? hv) hg
    have:=hbg g hg'
    omega
   ·exfalso
    rw[List.getElem?_append_left hi'] at hv'
    have hi2:i=(vs s).length:=by have:=(List.getElem?_eq_some_iff.1 hv).1;simp at this;omega
    rw[hi2,List.getElem?_append_right (Nat.le_refl _),Nat.sub_self] at hv
    obtain rfl:Value.slice A 256 c=v:=by simpa using hv
    have:=L.blt hs (List.mem_of_getElem? hv') hg'
    have:=hbg g hg
    omega
   ·have h1:=(List.getElem?_eq_some_iff.1 hv).1
    have h2:=(List.getElem?_eq_some_iff.1 hv').1
    simp at h1 h2
    omega
 ·exact (hT.os.trans (hbC'.os))
 ·exact (hT.tape.trans (hbC'.tape))
 ·exact (hT.output.trans (hbC'.output))
 ·have:(wD.setCell ⟨ro,s,none⟩ v1).heap.size=wD.heap.size:=by simp[World.setCell]
  omega
 ·have hkr:k≠ro:=fun e=>hn (e▸L.inS.2.1)
  exact (hTE.block k (by omega) hkr).trans (old k hk fun e=>hn (L.inS.2.2.1 s hs k e))
theorem RLay.apart (L:RLay w rp ro oc iv vs S D){g o:Nat}{x:List UInt8}(hx:0<x.length)(h:w.rangeAt g o (bvs x)):g≠rp:=fun e=>by
 subst e
 have hc:=h 0 (bv x[0]) (by simp[bvs,hx])
 rw[cell_of_row w g (o+0) _ _ _ L.me,Nat.add_zero] at hc
 rcases o with _|_|_|_|_|o<;>simp[bv] at hc
end
def lE (n:Nat)(p:Array (Nat × Value)):Sem Value:=Instr.buildSlice 30 n p
def lS (n:Nat)(p:Array (Nat × Value)):Sem Value:=Instr.buildSlice 67 n p
def apR (ts:Array TypeId)(ty:TypeId)(args:Array Value):Sem Value:=Builtin.append_ ts ty args
theorem qr7 (n:Nat)(p:Array (Nat × Value)):Instr.buildSlice 30 n p=lE n p:=rfl
theorem qf0 (n:Nat)(p:Array (Nat × Value)):Instr.buildSlice 67 n p=lS n p:=rfl
theorem qgm (ts:Array TypeId)(ty:TypeId)(args:Array Value):Builtin.append_ ts ty args=apR ts ty args:=rfl
theorem qt2 (w:World):(lE 0 #[]).run Tryz.prog w=.ok (.slice (some ⟨w.heap.size,0,none⟩) 0 0) (litE w):=by
 obtain⟨i,hi,hz0,hz1,hz2⟩:=info_parts T22.info
 simp[lE,Instr.buildSlice,run_underlying T22.sl,sizeOf,typeInfo,hi,newRow,litE,Instr.fill]
 exact congrArg (fun a=>w.alloc (.cells a 5)) (Array.eq_empty_of_size_eq_zero (by simp))
theorem qpw (w:World)(v:Value)(hv:v.cells=#[v]):(lS 1 #[(0,v)]).run Tryz.prog w=.ok (.slice (some ⟨w.heap.size,0,none⟩) 1 1) (litS w v):=by
 obtain⟨i,hi,hz0,hz1,hz2⟩:=info_parts Q64
 refine run_buildSlice w _ _ 1 _ #[v] i _ Tryz.underlying67 hi hz0 (by rw[hz1];omega) (by rw[hz1];omega) ?_
 rw[hz1]
 have h:=Great.fill_whole (s:=1) (by omega) [v] ((Array.range (1*1)).map ((Value.slice none 0 0).cells[· % (Value.slice none 0 0).cells.size]!)) (by intro u hu;rw[List.mem_singleton.1 hu,hv];rfl) (by rw[Array.size_map,Array.size_range];rfl)
 refine Eq.trans ?_ (h.trans ?_)
 ·simp only[List.zipIdx_cons,List.zipIdx_nil,List.map_cons,List.map_nil]
 ·simp[hv]
attribute [local go_sem ↓] qr7 qf0 qgm
theorem q9x {w:World}{rp:Nat}{S:Nat→Prop}{D:DM}(L0:RDrv w rp S D)(s:Int)(A:Option Addr)(n c:Nat)(x:List UInt8)(h:Sl w A n c x)(hst:D.steps≤1000000000)(hcl:∀k,(D.cac k).length≤999999) :
  Calls Tryz.prog 69 #[.pointer (some ⟨rp,0,none⟩),.int .i64 s,.slice A n c] w fun e w'=>e=.returned (.int .i64 (D.writeE s x))∧RDrv w' rp (fun k=>S k∨w.heap.size≤k) (D.writeD s x)∧Turn S w w':=by
 obtain⟨ro,oc,iv,vs,L⟩:=L0
 have up:∀{w':World} {iv' vs' D'},RLay w' rp ro oc iv' vs' S D'→RDrv w' rp (fun k=>S k∨w.heap.size≤k) D':=fun L'=>⟨ro,oc,_,_,L'.mono fun _ _ h=>.inl h⟩
 have hn:=h.len
 have hsp:∀k,k=rp→S k:=fun k e=>e▸L.inS.1
 have H1:=q5t L s
 by_cases hs:0≤s∧s<(D.n:Int)
 ·rw[show decide (0≤s∧s<(D.n:Int))=true by simpa using hs] at H1
  by_cases hx:x.length=256
  ·have hbad:D.bad s x=false:=by simp[DM.bad,hs,hx]
   unfold DM.writeE DM.writeD
   rw[hbad]
   simp only[Bool.false_eq_true,if_false]
   obtain⟨k,rfl⟩:=Int.eq_ofNat_of_zero_le hs.1
   have hk:k<D.n:=by omega
   rw[Int.toNat_natCast]
   obtain rfl:n=256:=by omega
   obtain⟨g,o,rfl,hgl,hr⟩:=qhk h (by omega)
   have hap:=L.apart (by omega) hr
   have H2:=qd2 L hst
   unfold DM.err at H2 ⊢
   cases hstop:D.stop with
   |true=>
    rw[hstop] at H2
    go_enter Tryz.func69,Tryz.ntmps69
    go_wp2_with fail
    refine H1.mono ?_
    rintro e w1 ⟨rfl,rfl⟩
    go_wp2_with fail
    refine H2.mono ?_
    rintro e w1 ⟨rfl,L1,T1⟩
    go_wp2_with fail
    go_ret
    exact⟨rfl,up L1,T1.mono hsp⟩
   |false=>
    rw[hstop] at H2
    go_enter Tryz.func69,Tryz.ntmps69
    go_wp2_with fail
    refine H1.mono ?_
    rintro e w1 ⟨rfl,rfl⟩
    go_wp2_with fail
    refine H2.mono ?_
    rintro e w1 ⟨rfl,L1,T1⟩
    have hb1:Sl w1.drew (some ⟨g,o,none⟩) 256 c x:=by
     have h1:=qbu (w:=w1.drew) (q22 hr (T1.block g hgl hap)) (by have:=T1.size;show g<w1.heap.size;omega) (c:=c) (by have:=h.cap;omega) h.max
     rw[hx] at h1;exact h1
    have LD:=L1.drew
    obtain⟨A1,c1,wB,v1,wD,hap1,hap2,kA,kB,kC,⟨kD1,kD2⟩,LE,TE⟩:=LD.append k hk (some ⟨g,o,none⟩) c x hb1 (hcl k) 30 67
    have p0:=LD.c0
    have hp:rp<w1.drew.heap.size:=q01 LD.me
    have ho:ro<w1.drew.heap.size:=LD.rolt
    have q0:=(LD.out k hk).1
    have pA:=(World.cell?_of_block (w:=w1.drew) (a:=⟨rp,0,none⟩) (kA rp hp)).trans p0
    have pB:=(World.cell?_of_block (w:=w1.drew) (a:=⟨rp,0,none⟩) (kB rp hp)).trans p0
    have pC:=(World.cell?_of_block (w:=w1.drew) (a:=⟨rp,0,none⟩) (kC rp hp)).trans p0
    have pD:=(World.cell?_of_block (w:=w1.drew) (a:=⟨rp,0,none⟩) kD1).trans p0
    have qA:=(World.cell?_of_block (w:=w1.drew) (a:=⟨ro,k,none⟩) (kA ro ho)).trans q0
    have qB:=(World.cell?_of_block (w:=w1.drew) (a:=⟨ro,k,none⟩) (kB ro ho)).trans q0
    have qC:=(World.cell?_of_block (w:=w1.drew) (a:=⟨ro,k,none⟩) (kC ro ho)).trans q0
    have qD:=(World.cell?_of_block (w:=w1.drew) (a:=⟨ro,k,none⟩) kD2).trans q0
    have fD:=(World.frozen?_of_block (w:=w1.drew) (a:=⟨ro,k,none⟩) kD2).trans (LD.out k hk).2
    have hix:∀w',(Instr.indexAt 50 (.slice (some ⟨ro,0,none⟩) D.stepD.n oc) (.int .i64 (k:Int))).run Tryz.prog w'=.ok (.pointer (some ⟨ro,k,none⟩)) w':=fun w'=>by
     have:=q1a (P:=Tryz.prog) Tryz.underlying50 S64 w' ro 0 D.stepD.n oc k hk
     simpa only[Nat.zero_add] using this
    have hE:(lE 0 #[]).run Tryz.prog w1.drew=.ok (.slice (some ⟨w1.heap.size,0,none⟩) 0 0) (litE w1.drew):=qt2 w1.drew
    have hS:=qpw wB (.slice A1 256 c1) rfl
    have hap1:(apR #[30,30] 30 #[.slice (some ⟨w1.heap.size,0,none⟩) 0 0,.slice (some ⟨g,o,none⟩) 256 c]).run Tryz.prog (litE w1.drew)=.ok (.slice A1 256 c1) wB:=hap1
    have hap2:(apR #[67,67] 67 #[iv k,.slice (some ⟨wB.heap.size,0,none⟩) 1 1]).run Tryz.prog (litS wB (.slice A1 256 c1))=.ok v1 wD:=hap2
    have hzz:=T1.size
    have hone:v1.oneCell'=true:=by
     have hI:=LE.irow k hk
     rw[q0a] at hI
     obtain⟨_,_,_,e,_⟩:=hI
     rw[e];rfl
    obtain⟨gv,ov,cv,hvv,_⟩:∃gv ov cv,v1=Value.slice (some ⟨gv,ov,none⟩) (vs k++[Value.slice A1 256 c1]).length cv∧True:=by
     have hI:=LE.irow k hk
     rw[q0a,q0a] at hI
     obtain⟨a,b,e,h,_⟩:=hI
     exact⟨a,b,e,h,trivial⟩
    subst hvv
    generalize hlv:(vs k++[Value.slice A1 256 c1]).length=lv at *
    clear kA kB kC kD1 kD2 hp ho hone hlv
    go_wp2_with fail
    go_region
    all_goals (go_wp2_with fail;go_ret;exact⟨rfl,⟨ro,oc,_,_,LE.mono fun z _ hz=>hz.imp id fun hz=>by simp at hz;omega⟩,((T1.mono hsp).drew).then TE⟩)
  ·have hbad:D.bad s x=true:=by simp[DM.bad,hx]
   unfold DM.writeE DM.writeD
   rw[hbad]
   have hn2:¬(n:Int)=256:=by omega
   go_enter Tryz.func69,Tryz.ntmps69
   go_wp2_with fail
   refine H1.mono ?_
   rintro e w1 ⟨rfl,rfl⟩
   go_wp2_with fail
   go_ret
   exact⟨rfl,up L,Turn.refl _ _⟩
 ·rw[show decide (0≤s∧s<(D.n:Int))=false by simpa using hs] at H1
  have hbad:D.bad s x=true:=by simp[DM.bad,hs]
  unfold DM.writeE DM.writeD
  rw[hbad]
  go_enter Tryz.func69,Tryz.ntmps69
  go_wp2_with fail
  refine H1.mono ?_
  rintro e w1 ⟨rfl,rfl⟩
  go_wp2_with fail
  go_ret
  exact⟨rfl,up L,Turn.refl _ _⟩
end
section
open Go.ChangeShapes Go.WideShapes Go.ChangeAt
def i64 (z:Int):Prop:=-9223372036854775808≤z∧z≤9223372036854775807
def Pairs (w:World)(A:Option Addr)(n c:Nat)(ps:List (Int × Int)):Prop:=
 ps.length=n∧n≤c∧c≤maxLen∧(∀x∈ps,i64 x.1∧i64 x.2)∧∀(j:Nat) x,ps[j]?=some x→∃g o,A=some ⟨g,o,none⟩∧g<w.heap.size∧w.cell? ⟨g,o+j*2,none⟩=some (.int .i64 x.1)∧w.cell? ⟨g,o+j*2+1,none⟩=some (.int .i64 x.2)
section
variable {H:Type}{enc:TypeId × Value→H}{P:Program}{W:World}
theorem qgn {e:TypeId}(he:P.underlying e=some (.int .i64)){sp:Nat→Bool}{m:Nat}{c:Value}{y:DataW H × List MemPlace}(h:DataW.trod enc P W 0 sp true m e [c]=some y):∃z,c=.int .i64 z∧i64 z:=by
 obtain⟨z,hcs,_,hw⟩:=DataW.trod_int he h
 exact⟨z,by simpa using hcs,bounds_i64 hw⟩
end
section
variable {w w':World}{A:Option Addr}{n c:Nat}{ps:List (Int × Int)}
theorem Pairs.below (h:Pairs w A n c ps)(hb:Below w.heap.size w w'):Pairs w' A n c ps:=
 ⟨h.1,h.2.1,h.2.2.1,h.2.2.2.1,fun j x hx=>by
  obtain⟨g,o,e,hg,h1,h2⟩:=h.2.2.2.2 j x hx
  exact⟨g,o,e,by have:=hb.size;omega,(hb.cell (p:=⟨g,_,none⟩) hg).trans h1,(hb.cell (p:=⟨g,_,none⟩) hg).trans h2⟩⟩
end
end
end Go.Proofs.YtipejjgodnnkaaaGreatDoor
