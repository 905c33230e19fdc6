/- Seal's fields, valid, packed, unpacked: the header's five numbers as a block holds them -/
import Derived.Test.YtipejjgodnnkaaaGreatDoorPm3
import Derived.Test.YtipejjgodnnkaaaGreatDoorPm5
import Derived.BigRegion
import Derived.StillTailTactics
import Derived.Deep.RegionHeld3
import Derived.Laws.CopyOwn
namespace Go.Proofs.YtipejjgodnnkaaaGreatDoor
open Go Go.RowKit Go.Proofs
set_option maxHeartbeats 2000000
set_option maxRecDepth 10000
structure Hd where
 kind:Int
 addr:Int
 count:Int
 level:Int
 gen:Int
def Hd.v (h:Hd):Value:=.agg #[.int .i64 h.kind,.int .i64 h.addr,.int .i64 h.count,.int .i64 h.level,.int .i64 h.gen]
def Hd.zero:Hd:=⟨0,0,0,0,0⟩
def foff:Nat→Nat|0=>0|1=>3|2=>1|3=>2|_=>4
def fwid:Nat→Int|0=>1|1=>1|2=>2|3=>2|_=>5
def flea:Nat→Int|0=>1|_=>0
def fmos:Nat→Int|0=>6|1=>8|2=>2047|3=>65535|_=>1099511627775
def Hd.fld (h:Hd):Nat→Int|0=>h.kind|1=>h.level|2=>h.addr|3=>h.count|_=>h.gen
def Hd.set (h:Hd)(k:Nat)(x:Int):Hd:=match k with
 |0=>{ h with kind:=x }
 |1=>{ h with level:=x }
 |2=>{ h with addr:=x }
 |3=>{ h with count:=x }
 |_=>{ h with gen:=x }
def fv (bp k:Nat):Value:=.agg #[.pointer (some ⟨bp,foff k,none⟩),.int .i64 (fwid k),.int .i64 (flea k),.int .i64 (fmos k)]
def fvsL (bp:Nat):List Value:=[.pointer (some ⟨bp,0,none⟩),.int .i64 1,.int .i64 1,.int .i64 6,.pointer (some ⟨bp,3,none⟩),.int .i64 1,.int .i64 0,.int .i64 8,
 .pointer (some ⟨bp,1,none⟩),.int .i64 2,.int .i64 0,.int .i64 2047,.pointer (some ⟨bp,2,none⟩),.int .i64 2,.int .i64 0,.int .i64 65535,.pointer (some ⟨bp,4,none⟩),.int .i64 5,.int .i64 0,.int .i64 1099511627775]
def fvs (bp:Nat):Value:=.agg (fvsL bp).toArray
def HB (w:World)(bp:Nat)(h:Hd):Prop:=∃t,w.heap[bp]?=some (.cells #[.int .i64 h.kind,.int .i64 h.addr,.int .i64 h.count,.int .i64 h.level,.int .i64 h.gen] t (0,0))
theorem qmq (w:World)(cs:Array Value)(t:TypeId):(w.alloc (.cells cs t)).there w.heap.size 0 cs.size:=fun j hj=>by
 have hb:(w.alloc (.cells cs t)).heap[w.heap.size]?=some (.cells cs t (0,0)):=heap_alloc_new w _
 refine⟨?_,by unfold World.frozen?;rw[hb];simp⟩
 rw[cell_of_row _ _ _ _ _ _ hb,Nat.zero_add,Array.getElem?_eq_getElem hj];rfl
theorem q0l {fn:Func}{p:Tmp}{ty:TypeId}{ad:Addr}{v:Value}{P:Program}{w:World}{tmps:Array Value}(h:fn.results=#[.cell p ty])(hp:tmps.getD p undef=.pointer (some ad))(hl:(loadVar ty ad).run P w=.ok v w) :
  (results fn tmps).run P w=.ok v w:=by
 have e:(results fn tmps).run P w=((asAddr (tmps.getD p undef)).run P w).andThen fun a w₁=>(loadVar ty a).run P w₁:=by
  simp only[results,h]
  simp[Sem.run_bind,Result.andThen]
  try rfl
 rw[e,hp]
 simp[asAddr,hl]
theorem idx (bp k:Nat)(hk:k<5)(w:World):(Instr.index 231 (fvs bp) (.int .i64 (k:Int))).run Tryz.prog w=.ok (fv bp k) w:=by
 match k,hk with
 |0,_=>show (Instr.index 231 (fvs bp) (.int .i64 0)).run Tryz.prog w=_;kernel_rfl
 |1,_=>show (Instr.index 231 (fvs bp) (.int .i64 1)).run Tryz.prog w=_;kernel_rfl
 |2,_=>show (Instr.index 231 (fvs bp) (.int .i64 2)).run Tryz.prog w=_;kernel_rfl
 |3,_=>show (Instr.index 231 (fvs bp) (.int .i64 3)).run Tryz.prog w=_;kernel_rfl
 |4,_=>show (Instr.index 231 (fvs bp) (.int .i64 4)).run Tryz.prog w=_;kernel_rfl
theorem q71 (bp:Nat)(w:World) :
  Calls Tryz.prog 189 #[.pointer (some ⟨bp,0,none⟩)] w fun e w'=>e=.returned (fvs bp)∧Below w.heap.size w w':=by
 go_enter Tryz.func189,Tryz.ntmps189
 go_wp2
 generalize hw1:w.alloc _=w1
 go_still_tail 21,(by kernel_rfl)
 change wpList _ _ _ _ _ w1.drew
 have hb1:Below w.heap.size w w1:=by rw[←hw1];exact blA
 have ht:w1.drew.there w.heap.size 0 20:=by
  show w1.there w.heap.size 0 20
  rw[←hw1]
  exact qmq w _ _
 clear hw1
 refine wpList_store_mid rfl _ _ _ rfl w.heap.size 0 (fvsL bp).toArray rfl rfl ht (by kernel_rfl) (by simp[fvsL,Value.oneCell']) ?_
 have hr:(w1.drew.setCells w.heap.size 0 (fvsL bp)).rangeAt w.heap.size 0 (fvsL bp):=World.rangeAt_setCells_same _ _ _ _ ht
 have hb2:Below w.heap.size w (w1.drew.setCells w.heap.size 0 (fvsL bp)):=hb1.drew.trans ((q0d (S:=fun k=>k=w.heap.size) rfl (fvsL bp) 0 w1.drew).below (fun x hx=>by omega) (hb1.size))
 change wpList _ _ _ _ _ (w1.drew.setCells w.heap.size 0 (fvsL bp))
 generalize w1.drew.setCells w.heap.size 0 (fvsL bp)=w2 at hr hb2 ⊢
 go_wp2
 refine bodyPost_ret (v:=fvs bp) ?_ rfl ⟨rfl,hb2⟩
 exact q0l Tryz.results189 rfl (run_loadVar_mid w2 w.heap.size 0 231 (fvsL bp) _ hr Tryz.underlying231 rfl (by kernel_rfl))
theorem HB.at_ {w:World}{bp:Nat}{h:Hd}(H:HB w bp h)(k:Nat):w.cell? ⟨bp,foff k,none⟩=some (.int .i64 (h.fld k)):=by
 obtain⟨t,H⟩:=H
 rw[cell_of_row _ _ _ _ _ _ H]
 match k with
 |0=>rfl
 |1=>rfl
 |2=>rfl
 |3=>rfl
 |_+4=>rfl
theorem HB.below {w w':World}{bp:Nat}{h:Hd}(H:HB w bp h){B:Nat}(hb:Below B w w')(hB:bp<B):HB w' bp h:=by
 obtain⟨t,H⟩:=H
 exact⟨t,(hb.block bp hB).trans H⟩
theorem idx4 (bp k:Nat)(hk:k<5)(w:World):(Instr.index 231 (fvs bp) (.int .i64 (k:Int))).run Tryz.prog w=.ok (.agg #[.pointer (some ⟨bp,foff k,none⟩),.int .i64 (fwid k),.int .i64 (flea k),.int .i64 (fmos k)]) w:=idx bp k hk w
def Hd.in_ (h:Hd)(k:Nat):Prop:=flea k≤h.fld k∧h.fld k≤fmos k
def Hd.ok (h:Hd):Bool:=decide ((1≤h.kind∧h.kind≤6)∧(0≤h.level∧h.level≤8)∧(0≤h.addr∧h.addr≤2047)∧(0≤h.count∧h.count≤65535)∧0≤h.gen∧h.gen≤1099511627775)
theorem Hd.ok_of (h:Hd)(H:∀j<5,h.in_ j):h.ok=true:=by
 have h0:=H 0 (by omega)
 have h1:=H 1 (by omega)
 have h2:=H 2 (by omega)
 have h3:=H 3 (by omega)
 have h4:=H 4 (by omega)
 exact decide_eq_true ⟨h0,h1,h2,h3,h4⟩
theorem Hd.in_of (h:Hd)(H:h.ok=true)(j:Nat)(hj:j<5):h.in_ j:=by
 obtain⟨h0,h1,h2,h3,h4⟩:=of_decide_eq_true H
 match j,hj with
 |0,_=>exact h0
 |1,_=>exact h1
 |2,_=>exact h2
 |3,_=>exact h3
 |4,_=>exact h4
theorem q3h (h:Hd)(w:World) :
  Calls Tryz.prog 147 #[.agg #[.int .i64 h.kind,.int .i64 h.addr,.int .i64 h.count,.int .i64 h.level,.int .i64 h.gen]] w fun e w'=>e=.returned (.bool h.ok)∧Below w.heap.size w w':=by
 go_enter Tryz.func147,Tryz.ntmps147
 go_wp2_with (go_at_call 189;refine (q71 w.heap.size _).mono ?_;rintro e w2 ⟨rfl,hb2⟩)
 have H2:HB w2 w.heap.size h:=HB.below ⟨_,heap_alloc_new w _⟩ hb2 (by simp)
 have hB2:Below w.heap.size w w2:=(blA).trans (hb2.mono (by simp))
 have hs2:=hb2.size
 rw[World.size_alloc] at hs2
 go_loopw [6] (fun i wr=>∃k:Nat,k≤5∧i=.int .i64 (k:Int)∧(∀j<k,h.in_ j)∧HB wr w.heap.size h∧Below w.heap.size w wr∧w.heap.size<wr.heap.size) (fun i _=>5-(intOf i).toNat)
 case atStart=>exact⟨0,by omega,rfl,fun j hj=>by omega,H2,hB2,by omega⟩
 case round=>
  obtain⟨k,hk,rfl,hin,H,hB,hlt⟩:=hrel
  by_cases h5:k<5
  ·have hix:=idx4 w.heap.size k h5
   have hc:=H.at_ k
   have hk0:(0:Int)≤(k:Int):=by omega
   have hc2:∀o:Obj,(wr.alloc o).cell? ⟨w.heap.size,foff k,none⟩=some (.int .i64 (h.fld k)):=fun o=>((Below.refl _ _).alloc (Nat.le_refl _) o).cell hlt |>.trans hc
   go_wp2
   generalize hw1:wr.alloc _=w1
   have hB1:Below wr.heap.size wr w1:=by rw[←hw1];exact blA
   have hn:w1.heap[wr.heap.size]?=some (.cells #[.pointer (some ⟨w.heap.size,foff k,none⟩),.int .i64 (fwid k),.int .i64 (flea k),.int .i64 (fmos k)] 230 (0,0)):=by rw[←hw1];exact heap_alloc_new wr _
   have hs1:w1.heap.size=wr.heap.size+1:=by rw[←hw1];simp
   clear hw1 hix
   have q0:w1.cell? ⟨wr.heap.size,0,none⟩=some (.pointer (some ⟨w.heap.size,foff k,none⟩)):=by rw[cell_of_row _ _ _ _ _ _ hn];rfl
   have q2:w1.cell? ⟨wr.heap.size,2,none⟩=some (.int .i64 (flea k)):=by rw[cell_of_row _ _ _ _ _ _ hn];rfl
   have q3:w1.cell? ⟨wr.heap.size,3,none⟩=some (.int .i64 (fmos k)):=by rw[cell_of_row _ _ _ _ _ _ hn];rfl
   have qc:w1.cell? ⟨w.heap.size,foff k,none⟩=some (.int .i64 (h.fld k)):=(hB1.cell hlt).trans hc
   have H1:=H.below hB1 hlt
   have hBw:=hB.trans (hB1.mono hB.size)
   clear hB H hc hc2 hn hB1
   generalize hx:h.fld k=x at *
   generalize hl:flea k=lo at *
   generalize hm:fmos k=hi at *
   by_cases h1:x<lo
   ·have hno:h.ok=false:=by
     cases ho:h.ok
     ·rfl
     ·have:=(h.in_of ho k h5).1;omega
    go_quiet (fail)
    go_wp2
    go_ret
    exact⟨by first|rfl|(rw[hno];rfl),q0s hBw _⟩
   ·have g1:decide (x<lo)=false:=decide_eq_false h1
    by_cases h2:hi<x
    ·have hno:h.ok=false:=by
      cases ho:h.ok
      ·rfl
      ·have:=(h.in_of ho k h5).2;omega
     go_quiet (fail)
     go_wp2
     go_ret
     exact⟨by first|rfl|(rw[hno];rfl),q0s hBw _⟩
    ·have g2:decide (hi<x)=false:=decide_eq_false h2
     go_quiet (fail)
     go_wp2
     refine⟨⟨k+1,by omega,rfl,fun j hj=>?_,H1.below (q0s (Below.refl w1.heap.size w1) _) (by omega),q0s hBw _,by show w.heap.size<w1.heap.size;omega⟩,by simp[intOf];omega⟩
     by_cases hjk:j=k
     ·rw[hjk];unfold Hd.in_;rw[hx,hl,hm];omega
     ·exact hin j (by omega)
  ·have hk5:k=5:=by omega
   go_wp2
   go_ret
   exact⟨by rw[h.ok_of (by rw[←hk5];exact hin)];rfl,hB⟩
def hdB (h:Hd):List UInt8:=dig h.kind 1++(dig h.level 1++(dig h.addr 2++(dig h.count 2++dig h.gen 5)))
def hdTo (h:Hd):Nat→List UInt8
 |0=>[]
 |k+1=>hdTo h k++dig (h.fld k) (fwid k).toNat
theorem qpa (h:Hd)(k:Nat)(hk:k≤5):(hdTo h k).length≤11:=by
 match k,hk with
 |0,_=>simp[hdTo]
 |1,_=>simp[hdTo,q0b,fwid]
 |2,_=>simp[hdTo,q0b,fwid]
 |3,_=>simp[hdTo,q0b,fwid]
 |4,_=>simp[hdTo,q0b,fwid]
 |5,_=>simp[hdTo,q0b,fwid]
theorem qpb (h:Hd):hdTo h 5=hdB h:=by simp[hdTo,hdB,Hd.fld,fwid]
theorem qmr (k:Nat):1≤fwid k∧fwid k≤5:=by
 match k with
 |0=>decide
 |1=>decide
 |2=>decide
 |3=>decide
 |_+4=>exact⟨by show (1:Int)≤5;omega,by show (5:Int)≤5;omega⟩
theorem qj9 (h:Hd)(w:World) :
  Calls Tryz.prog 148 #[.agg #[.int .i64 h.kind,.int .i64 h.addr,.int .i64 h.count,.int .i64 h.level,.int .i64 h.gen]] w fun e w'=>∃A n c,e=.returned (.slice A n c)∧Sl w' A n c (hdB h)∧Below w.heap.size w w':=by
 go_enter Tryz.func148,Tryz.ntmps148
 go_wp2_with (go_at_call 189;refine (q71 w.heap.size _).mono ?_;rintro e w2 ⟨rfl,hb2⟩)
 have H2:HB w2 w.heap.size h:=HB.below ⟨_,heap_alloc_new w _⟩ hb2 (by simp)
 have hB2:Below w.heap.size w w2:=(blA).trans (hb2.mono (by simp))
 have hs2:=hb2.size
 rw[World.size_alloc] at hs2
 go_loopw [3,7] (fun s i wr=>∃(k:Nat) (A:Option Addr) (n c:Nat),k≤5∧s=.slice A n c∧i=.int .i64 (k:Int)∧Sl wr A n c (hdTo h k)∧HB wr w.heap.size h∧Below w.heap.size w wr∧w.heap.size<wr.heap.size) (fun _ i _=>5-(intOf i).toNat)
 case atStart=>exact⟨0,none,0,0,by omega,rfl,rfl,q0k _,H2,hB2,by omega⟩
 case round=>
  obtain⟨k,A,n,c,hk,rfl,rfl,hs,H,hB,hlt⟩:=hrel
  by_cases h5:k<5
  ·have hix:=idx4 w.heap.size k h5
   have hc:=H.at_ k
   have hk0:(0:Int)≤(k:Int):=by omega
   go_wp2
   generalize hw1:wr.alloc _=w1
   have hB1:Below wr.heap.size wr w1:=by rw[←hw1];exact blA
   have hn:w1.heap[wr.heap.size]?=some (.cells #[.pointer (some ⟨w.heap.size,foff k,none⟩),.int .i64 (fwid k),.int .i64 (flea k),.int .i64 (fmos k)] 230 (0,0)):=by rw[←hw1];exact heap_alloc_new wr _
   have hs1:w1.heap.size=wr.heap.size+1:=by rw[←hw1];simp
   clear hw1 hix
   have q0:w1.cell? ⟨wr.heap.size,0,none⟩=some (.pointer (some ⟨w.heap.size,foff k,none⟩)):=by rw[cell_of_row _ _ _ _ _ _ hn];rfl
   have q1:w1.cell? ⟨wr.heap.size,1,none⟩=some (.int .i64 (fwid k)):=by rw[cell_of_row _ _ _ _ _ _ hn];rfl
   have qc:w1.cell? ⟨w.heap.size,foff k,none⟩=some (.int .i64 (h.fld k)):=(hB1.cell hlt).trans hc
   have H1:=H.below hB1 hlt
   have hs':=hs.below hB1
   have hBw:=hB.trans (hB1.mono hB.size)
   have hlen:=hs.len
   have hll:=qpa h k hk
   have hfw:=qmr k
   have hnx:putS (hdTo h k) (h.fld k) (fwid k)=hdTo h (k+1):=by unfold putS;rw[if_pos (by omega)];rfl
   clear hB H hc hn hB1 hs
   go_still_tail 7,(by kernel_rfl)
   change wpList _ _ _ _ _ w1.drew
   go_wp2_with (go_at_call 174;refine (q8i A n c (hdTo h k) (h.fld k) (fwid k) _ hs'.drew (by omega)).mono ?_;rintro e w3 ⟨A3,n3,c3,rfl,hown3,hb3⟩)
   rw[hnx] at hown3
   have hb3':Below w1.heap.size w1 w3:=(Below.refl _ _).drew.trans hb3
   exact⟨⟨k+1,A3,n3,c3,by omega,rfl,rfl,hown3.sl,H1.below hb3' (by omega),hBw.trans (hb3'.mono hBw.size),by have:=hb3'.size;omega⟩,by simp[intOf];omega⟩
  ·have hk5:k=5:=by omega
   go_wp2
   go_ret
   rw[hk5,qpb] at hs
   exact⟨A,n,c,rfl,hs,hB⟩
def fpos:Nat→Nat|0=>0|1=>1|2=>2|3=>4|4=>6|_=>11
def rdF (l:List UInt8)(k:Nat):Nat:=numL ((l.drop (fpos k)).take (fwid k).toNat)
def rdTo (l:List UInt8):Nat→Hd
 |0=>Hd.zero
 |k+1=>(rdTo l k).set k (rdF l k)
def hdOf (l:List UInt8):Hd:=⟨numL (l.take 1),numL ((l.drop 2).take 2),numL ((l.drop 4).take 2),numL ((l.drop 1).take 1),numL ((l.drop 6).take 5)⟩
theorem qpc (l:List UInt8):rdTo l 5=hdOf l:=rfl
theorem qms (k:Nat)(hk:k<5):fpos (k+1)=fpos k+(fwid k).toNat:=by
 match k,hk with
 |0,_=>rfl
 |1,_=>rfl
 |2,_=>rfl
 |3,_=>rfl
 |4,_=>rfl
theorem qsa (k:Nat)(hk:k≤5):fpos k≤11:=by
 match k,hk with
 |0,_=>decide
 |1,_=>decide
 |2,_=>decide
 |3,_=>decide
 |4,_=>decide
 |5,_=>decide
theorem HB.set_ {w:World}{bp:Nat}{h:Hd}(H:HB w bp h)(k:Nat)(x:Int):HB (w.setCell ⟨bp,foff k,none⟩ (.int .i64 x)) bp (h.set k x):=by
 obtain⟨t,H⟩:=H
 refine⟨t,(heap_setCell_same w bp (foff k) _ t (.int .i64 x) H).trans ?_⟩
 match k with
 |0=>rfl
 |1=>rfl
 |2=>rfl
 |3=>rfl
 |_+4=>rfl
theorem HB.fz {w:World}{bp:Nat}{h:Hd}(H:HB w bp h)(k:Nat):w.frozen? ⟨bp,foff k,none⟩=false:=by
 obtain⟨t,H⟩:=H
 unfold World.frozen?
 rw[H]
 simp
theorem HB.zero (w:World)(t:TypeId):HB (w.alloc (.cells #[.int .i64 0,.int .i64 0,.int .i64 0,.int .i64 0,.int .i64 0] t)) w.heap.size Hd.zero:=⟨t,heap_alloc_new w _⟩
theorem Own.turn {w w':World}{base n c:Nat}{e:TypeId}{A:Option Addr}{l:List UInt8}(h:Own w base e A n c l)(hk:∀g,base≤g→g<w.heap.size→w'.heap[g]?=w.heap[g]?):Own w' base e A n c l:=by
 refine⟨h.1,?_⟩
 rcases h.2 with hv|⟨g,cap,cur,hv,h1,hg,r⟩
 ·exact .inl hv
 ·exact .inr ⟨g,cap,cur,hv,h1,(hk g h1 (Array.getElem?_eq_some_iff.1 hg).1).trans hg,r⟩
def Hd.vs (h:Hd):List Value:=[.int .i64 h.kind,.int .i64 h.addr,.int .i64 h.count,.int .i64 h.level,.int .i64 h.gen]
theorem HB.range {w:World}{bp:Nat}{h:Hd}(H:HB w bp h):w.rangeAt bp 0 h.vs:=fun j v hv=>by
 obtain⟨t,H⟩:=H
 rw[cell_of_row _ _ _ _ _ _ H,Nat.zero_add]
 simpa [Hd.vs] using hv
theorem HB.there {w:World}{bp:Nat}{h:Hd}(H:HB w bp h):w.there bp 0 5:=fun j hj=>by
 obtain⟨t,H⟩:=H
 refine⟨?_,by unfold World.frozen?;rw[H];simp⟩
 rw[cell_of_row _ _ _ _ _ _ H,Nat.zero_add,Array.getElem?_eq_getElem (by simpa using hj)];rfl
theorem q1p {ops:Array Oper}{rest:List Oper}{o:Oper}{a:Act}{w:World}{Q:Exit→Act→World→Prop}(hg:o.guard=none)(x:Operand)(hop:o.op=Op.load 118 x)
  (b:Nat) (hx:a.eval x=.pointer (some ⟨b,0,none⟩)) (h:Hd) (H:HB w b h) (hK:wpList Tryz.prog ops Q rest (a.put o.dst h.v) w):wpList Tryz.prog ops Q (o::rest) a w:=
 wpList_load_mid hg _ x hop b 0 hx h.vs _ H.range Tryz.underlying118 rfl (by kernel_rfl) hK
theorem q08 {ops:Array Oper}{rest:List Oper}{o:Oper}{a:Act}{w:World}{Q:Exit→Act→World→Prop}(hg:o.guard=none)(x y:Operand)(hop:o.op=Op.store 118 x y)
  (b:Nat) (hx:a.eval x=.pointer (some ⟨b,0,none⟩)) (h h0:Hd) (hy:a.eval y=h.v) (H:HB w b h0) (hb:b<w.heap.size)
  (hK:∀w',w'.rangeAt b 0 h.vs→(∀B,B≤b→Below B w w')→Turn (fun k=>k=b) w w'→wpList Tryz.prog ops Q rest (a.put o.dst undef) w'):wpList Tryz.prog ops Q (o::rest) a w:=
 wpList_store_mid hg _ x y hop b 0 h.vs.toArray hx hy H.there (by kernel_rfl) (by simp[Hd.vs,Value.oneCell'])
  (hK _ (World.rangeAt_setCells_same _ _ _ _ H.there) (fun B hB=>(q0d (S:=fun k=>k=b) rfl h.vs 0 w).below (fun x hx=>by omega) (by omega)) (q0d (S:=fun k=>k=b) rfl h.vs 0 w))
theorem q4p (A:Option Addr)(c:Nat)(l:List UInt8)(w:World)(hs:Sl w A 11 c l) :
  Calls Tryz.prog 178 #[.slice A 11 c] w fun e w'=>e=.returned (hdOf l).v∧Below w.heap.size w w':=by
 go_enter Tryz.func178,Tryz.ntmps178
 go_wp2_with (go_at_call 189;refine (q71 (w.heap.size+1) _).mono ?_;rintro e w2 ⟨rfl,hb2⟩)
 have hsz:=hb2.size
 simp only[World.size_alloc] at hsz hb2
 have hb0:Below w.heap.size w w2:=(((Below.refl _ w).alloc (Nat.le_refl _) _).alloc (by simp) _).trans (hb2.mono (by omega))
 have hR:HB w2 w.heap.size Hd.zero:=((HB.zero w _).below (blA) (by simp)).below hb2 (by omega)
 have hH:HB w2 (w.heap.size+1) Hd.zero:=by
  have:=HB.zero (w.alloc (.cells #[.int .i64 0,.int .i64 0,.int .i64 0,.int .i64 0,.int .i64 0] 118)) 118
  rw[World.size_alloc] at this
  exact this.below hb2 (by omega)
 clear hb2
 have hl:=hs.len
 go_loopw [0,7] (fun s i wr=>∃(k:Nat) (A:Option Addr) (c:Nat),k≤5∧s=.slice A (11-fpos k) c∧i=.int .i64 (k:Int)∧Sl wr A (11-fpos k) c (l.drop (fpos k))∧HB wr w.heap.size Hd.zero∧HB wr (w.heap.size+1) (rdTo l k)∧Below w.heap.size w wr∧w.heap.size+2≤wr.heap.size) (fun _ i _=>5-(intOf i).toNat)
 case atStart=>exact⟨0,A,c,by omega,rfl,rfl,by simpa [fpos] using hs.below hb0,hR,hH,hb0,by omega⟩
 case round=>
  obtain⟨k,A1,c1,hk,rfl,rfl,hs1,hR1,H,hB,hlt⟩:=hrel
  by_cases h5:k<5
  ·have hix:=idx4 (w.heap.size+1) k h5
   have hk0:(0:Int)≤(k:Int):=by omega
   go_wp2
   generalize hw1:wr.alloc _=w1
   have hB1:Below wr.heap.size wr w1:=by rw[←hw1];exact blA
   have hn:w1.heap[wr.heap.size]?=some (.cells #[.pointer (some ⟨w.heap.size+1,foff k,none⟩),.int .i64 (fwid k),.int .i64 (flea k),.int .i64 (fmos k)] 230 (0,0)):=by rw[←hw1];exact heap_alloc_new wr _
   have hz1:w1.heap.size=wr.heap.size+1:=by rw[←hw1];simp
   clear hw1 hix
   have q0:w1.cell? ⟨wr.heap.size,0,none⟩=some (.pointer (some ⟨w.heap.size+1,foff k,none⟩)):=by rw[cell_of_row _ _ _ _ _ _ hn];rfl
   have q1:w1.cell? ⟨wr.heap.size,1,none⟩=some (.int .i64 (fwid k)):=by rw[cell_of_row _ _ _ _ _ _ hn];rfl
   have H1:=H.below hB1 (by omega)
   have hR2:=hR1.below hB1 (by omega)
   have hs2:=hs1.below hB1
   have hBw:=hB.trans (hB1.mono hB.size)
   have hp1:=qms k h5
   have hp2:=qsa (k+1) (by omega)
   have hfw:=qmr k
   have hd2:(l.drop (fpos k)).drop (fwid k).toNat=l.drop (fpos (k+1)):=by rw[List.drop_drop,hp1]
   have hrd:(numL ((l.drop (fpos k)).take (fwid k).toNat):Int)=(rdF l k:Int):=rfl
   clear hB H hn hB1 hs1 hR1
   have HT:=fun (w':World) (h':Sl w' A1 (11-fpos k) c1 (l.drop (fpos k)))=>q5z A1 (11-fpos k) c1 (l.drop (fpos k)) (fwid k) w' h' (by omega) (by omega) (by omega) (by omega)
   rw[hd2,hrd] at HT
   have hS:∀w':World,Turn (fun k=>k=w.heap.size+1) w1 w'→w'.cell? ⟨wr.heap.size,0,none⟩=some (.pointer (some ⟨w.heap.size+1,foff k,none⟩))∧w'.cell? ⟨wr.heap.size,1,none⟩=some (.int .i64 (fwid k))∧Turn (fun k=>k=w.heap.size+1) w1 w':=fun w' T=>⟨(World.cell?_of_block (T.block wr.heap.size (by omega) (by show ¬(wr.heap.size=w.heap.size+1);omega))).trans q0,(World.cell?_of_block (T.block wr.heap.size (by omega) (by show ¬(wr.heap.size=w.heap.size+1);omega))).trans q1,T⟩
   have TD:Turn (fun k=>k=w.heap.size+1) w1 w1.drew:=q00 (Below.refl _ _).drew
   go_region_held3 (fun w'=>w'.cell? ⟨wr.heap.size,0,none⟩=some (.pointer (some ⟨w.heap.size+1,foff k,none⟩))∧w'.cell? ⟨wr.heap.size,1,none⟩=some (.int .i64 (fwid k))∧Turn (fun k=>k=w.heap.size+1) w1 w')
    (first|assumption|exact hS _ TD|(go_split_ands;exact hS _ (Turn.then ‹Turn (fun k=>k=w.heap.size+1) w1 _› (q00 ‹Below (World.heap _).size _ _›)))|(go_split_ands;exact hS _ (Turn.then ‹Turn (fun k=>k=w.heap.size+1) w1 _› (q0e _ rfl))))
    (first
     |(go_at_call 185;refine (HT _ hs2.drew).mono ?_;rintro e w3 ⟨A3,n3,c3,rfl,hown3,hb3⟩;have hb4:Below w1.heap.size w1 w3:=(Below.refl _ w1).drew.trans hb3;have H3:=H1.below hb4 (by omega);have q5:=H3.at_ k;have q6:=H3.fz k)
     |fail)
   have hn3:n3=11-fpos (k+1):=by have:=hown3.len;rw[List.length_drop,hl] at this;omega
   subst hn3
   go_wp2
   have hb5:Below (w.heap.size+1) w3 (w3.setCell ⟨w.heap.size+1,foff k,none⟩ (.int .i64 (rdF l k:Int))):=(Below.refl _ w3).setCell (p:=⟨w.heap.size+1,foff k,none⟩) (Nat.le_refl _) _
   have hz4:=hb4.size
   refine⟨⟨k+1,A3,c3,by omega,rfl,rfl,?_,(hR2.below hb4 (by omega)).below hb5 (by omega),H3.set_ k _,(hBw.trans (hb4.mono hBw.size)).trans (hb5.mono (by omega)),by show w.heap.size+2≤(w3.setCell _ _).heap.size;rw[World.size_setCell];omega⟩,by simp[intOf];omega⟩
   exact (hown3.turn fun g hg _=>Below.heap_setCell _ _ _ _ (by show g≠w.heap.size+1;have h1:w1.drew.heap.size=w1.heap.size:=rfl;omega)).sl
  ·have hk5:k=5:=by omega
   go_wp2_with (first
    |(refine q1p rfl _ rfl _ rfl _ H ?_)
    |(refine q08 rfl _ _ rfl _ rfl _ _ rfl hR1 (by omega) ?_;intro w4 hr4 hb4 _))
   refine bodyPost_ret (v:=(hdOf l).v) ?_ rfl ⟨rfl,?_⟩
   ·rw[hk5,qpc] at hr4
    exact q0l Tryz.results178 rfl (run_loadVar_mid _ w.heap.size 0 118 _ _ hr4 Tryz.underlying118 rfl (by kernel_rfl))
   ·exact hB.trans (hb4 _ (Nat.le_refl _))
theorem qam {α β:Type}(f:α→β)(L:List α)(o:Nat)(cs:List α):splice (L.map f) o (cs.map f)=(splice L o cs).map f:=by simp[splice]
theorem Own.whole {w:World}{base n g:Nat}{e:TypeId}{l:List UInt8}(h:Own w base e (some ⟨g,0,none⟩) n n l):base≤g∧w.heap[g]?=some (.cells (l.map bv).toArray e (0,0))∧n≤maxLen:=by
 rcases h.2 with⟨hv,_⟩|⟨g',cap,cur,hv,hb,hg,h1,h2,h3,h4⟩
 ·injection hv with e1;cases e1
 ·injection hv with e1 e2 e3
  injection e1 with e1
  injection e1 with e1
  subst e1;subst e3
  refine⟨hb,?_,h2⟩
  rw[←h4,List.take_of_length_le (by simp[h3])]
  exact hg
theorem Own.of_whole {w:World}{base n g:Nat}{e:TypeId}{l:List UInt8}(hb:base≤g)(hg:w.heap[g]?=some (.cells (l.map bv).toArray e (0,0)))(hl:l.length=n)(hm:n≤maxLen):Own w base e (some ⟨g,0,none⟩) n n l:=
 ⟨by simpa using hl,.inr ⟨g,n,_,rfl,hb,hg,Nat.le_refl _,hm,by simpa using hl,by rw[List.take_of_length_le (by simp[hl])]⟩⟩
theorem q9d {P:Program}{t e:TypeId}(T:ByteT P t e){w:World}{ops:Array Oper}{rest:List Oper}{o:Oper}{a:Act}{Q:Exit→Act→World→Prop}(hgd:o.guard=none)(d s:Operand)
  (ho:o.op=.call { callee:=.builtin .copy,args:=#[d,s],argTypes:=#[t,t] })
  (base g n:Nat) (l:List UInt8) (hown:Own w base e (some ⟨g,0,none⟩) n n l) (off dLen dCap:Nat) (hd:a.eval d=.slice (some ⟨g,off,none⟩) dLen dCap)
  (B:Option Addr) (m c:Nat) (l2:List UInt8) (hs:a.eval s=.slice B m c) (hr:Sl w B m c l2) (hmd:m≤dLen) (hfit:off+m≤n)
  (hK:∀w',Own w' base e (some ⟨g,0,none⟩) n n (splice l off l2)→Below base w w'→wpList P ops Q rest (a.put o.dst (goInt m)) w'):wpList P ops Q (o::rest) a w:=by
 obtain⟨i,hi,hz0,hz1,hz2⟩:=info_parts T.info
 obtain⟨hb,hg,hm⟩:=hown.whole
 have hl:=hown.len
 have hl2:=hr.len
 refine wpList_copy_splice hgd d s t t ho e T.sl (by rw[hi];simp[hz1]) _ _ _ _ _ _ hd hs g off (l.map bv) e hg (l2.map bv) (by rw[List.length_map,hl2];exact (Nat.min_eq_left hmd).symm) (fun h0=>?_) (by simp;omega) (qc7 _) base w (Below.refl _ _) hb ?_
 ·rw[List.length_map] at h0
  obtain⟨ad,rfl,_⟩:=hr.cell (k:=0) (by omega)
  refine⟨rfl,ad,rfl,fun j v hv=>?_⟩
  obtain⟨ad',e1,_,hc⟩:=hr.2.2.2 j v hv
  injection e1 with e1
  subst e1
  exact hc
 ·intro w' hg' hb'
  have hg':=hg'.out
  rw[qam] at hg'
  have:=hK w' (Own.of_whole hb hg' (by rw[length_splice _ _ _ (by omega),hl]) hm) hb'
  rw[List.length_map,hl2]
  exact this
theorem qft {P:Program}{t e:TypeId}(T:ByteT P t e){w:World}{ops:Array Oper}{o:Oper}{a:Act}{K:Act→World→Prop}{Q:Exit→Act→World→Prop}{E:Prop}(hgd:o.guard=none)(d s:Operand)
  (ho:o.op=.call { callee:=.builtin .copy,args:=#[d,s],argTypes:=#[t,t] })
  (base g n:Nat) (l:List UInt8) (hown:Own w base e (some ⟨g,0,none⟩) n n l) (off dLen dCap:Nat) (hd:a.eval d=.slice (some ⟨g,off,none⟩) dLen dCap)
  (B:Option Addr) (m c:Nat) (l2:List UInt8) (hs:a.eval s=.slice B m c) (hr:Sl w B m c l2) (hmd:m≤dLen) (hfit:off+m≤n)
  (hK:∀w',Own w' base e (some ⟨g,0,none⟩) n n (splice l off l2)→Below g w w'→K (a.put o.dst (goInt m)) w'):if Region.wanted o (yielded ops a.tmps)=true then Oper.wp P o a w K Q else E:=by
 obtain⟨i,hi,hz0,hz1,hz2⟩:=info_parts T.info
 obtain⟨hb,hg,hm⟩:=hown.whole
 have hl:=hown.len
 have hl2:=hr.len
 refine step_copy_splice hgd d s t t ho e T.sl (by rw[hi];simp[hz1]) _ _ _ _ _ _ hd hs g off (l.map bv) e hg (l2.map bv) (by rw[List.length_map,hl2];exact (Nat.min_eq_left hmd).symm) (fun h0=>?_) (by simp;omega) (qc7 _) g w (Below.refl _ _) (Nat.le_refl _) ?_
 ·rw[List.length_map] at h0
  obtain⟨ad,rfl,_⟩:=hr.cell (k:=0) (by omega)
  refine⟨rfl,ad,rfl,fun j v hv=>?_⟩
  obtain⟨ad',e1,_,hc⟩:=hr.2.2.2 j v hv
  injection e1 with e1
  subst e1
  exact hc
 ·intro w' hg' hb'
  have hg':=hg'.out
  rw[qam] at hg'
  have:=hK w' (Own.of_whole hb hg' (by rw[length_splice _ _ _ (by omega),hl]) hm) hb'
  rw[List.length_map,hl2]
  exact this
def sumB (l:List UInt8):List UInt8:=dig (more 0 (l.drop 4):Nat) 4
theorem q72 (A:Option Addr)(n c:Nat)(l:List UInt8)(w:World)(hs:Sl w A n c l)(hn:5≤n)(ht:Tab w) :
  Calls Tryz.prog 149 #[.slice A n c] w fun e w'=>∃A' n' c',e=.returned (.slice A' n' c')∧Own w' w.heap.size 5 A' n' c' (sumB l)∧Below w.heap.size w w':=by
 have hc:=hs.cap
 have hm:=hs.max
 unfold maxLen at hm
 have h3:=hs.drop (k:=4) (by omega)
 have hc4:¬c=4:=by omega
 rw[if_neg hc4] at h3
 have hlt:=qas 0 (l.drop 4)
 generalize hS:more 0 (l.drop 4)=s at hlt
 have hput:putS [] (s:Int) 4=sumB l:=by unfold putS sumB;rw[hS];simp
 go_enter Tryz.func149,Tryz.ntmps149
 go_wp2_with (first
  |(go_at_call 190;refine (qs6 _ (n-4) (c-4) (l.drop 4) _ h3 ht).mono ?_;rw[hS];rintro e w3 ⟨rfl,rfl⟩)
  |(go_at_call 174;refine (q8i none 0 0 [] (s:Int) 4 _ (q0k _) (by omega)).mono ?_;rw[hput];rintro e w3 ⟨A3,n3,c3,rfl,hown3,hb3⟩))
 go_ret
 exact⟨_,_,_,rfl,hown3,hb3⟩
def allZ (l:List UInt8):Bool:=l.all (·==0)
theorem q9e (A:Option Addr)(n c:Nat)(l:List UInt8)(w:World)(hs:Sl w A n c l) :
  Calls Tryz.prog 179 #[.slice A n c] w fun e w'=>e=.returned (.bool (allZ l))∧w=w':=by
 have hc:=hs.cap
 have hm:=hs.max
 have hlen:=hs.len
 unfold maxLen at hm
 go_enter Tryz.func179,Tryz.ntmps179
 go_wp2
 go_loop [7] (fun i=>∃k:Nat,k≤n∧i=.int .i64 (k:Int)∧∀j<k,byt l j=0) (fun i=>n-(intOf i).toNat)
 case atStart=>exact⟨0,Nat.zero_le _,rfl,fun j hj=>by omega⟩
 case round=>
  obtain⟨k,hk,rfl,hin⟩:=hrel
  by_cases hlt:k<n
  ·obtain⟨ad,rfl,hb,hcell⟩:=hs.cell hlt
   have hb1:=q39 l k
   by_cases h0:byt l k=0
   ·have h0':(byt l k:Int)=0:=by omega
    go_wp2
    exact⟨⟨k+1,by omega,by go_num,fun j hj=>by by_cases hjk:j=k;(rw[hjk];exact h0);exact hin j (by omega)⟩,by simp[intOf];omega⟩
   ·have h0':¬(byt l k:Int)=0:=by omega
    have hz:allZ l=false:=by
     cases hq:allZ l
     ·rfl
     ·have:=List.all_eq_true.1 hq (l.getD k 0) (by rw[List.getD_eq_getElem?_getD,List.getElem?_eq_getElem (by omega)];simp)
      simp at this
      unfold byt at h0
      rw[List.getD_eq_getElem?_getD,this] at h0
      exact absurd rfl h0
    go_wp2
    go_ret
    exact⟨by first|rfl|(rw[hz];rfl),rfl⟩
  ·have hkn:k=n:=by omega
   have hz:allZ l=true:=by
    refine List.all_eq_true.2 fun x hx=>?_
    obtain⟨j,hj,rfl⟩:=List.getElem_of_mem hx
    have:=hin j (by omega)
    unfold byt at this
    rw[List.getD_eq_getElem?_getD,List.getElem?_eq_getElem hj] at this
    simpa using UInt8.toNat_inj.1 this
   go_wp2
   go_ret
   exact⟨by first|rfl|(rw[hz];rfl),rfl⟩
def restL (h:Hd)(l:List UInt8):List UInt8:=hdB h++(List.replicate 5 0++(l++List.replicate (236-l.length) 0))
def blkL (h:Hd)(l:List UInt8):List UInt8:=dig (more 0 (restL h l):Nat) 4++restL h l
def sealE (h:Hd)(l:List UInt8):Int:=if h.ok=true then if l.length≤236 then 0 else 7 else 1
def sealB (h:Hd)(l:List UInt8):List UInt8:=if h.ok=true then if l.length≤236 then blkL h l else [] else []
theorem q3v (h:Hd):(hdB h).length=11:=by simp[hdB,q0b]
theorem qmt (h:Hd)(l:List UInt8)(hl:l.length≤236):(restL h l).length=252:=by simp[restL,q3v];omega
theorem q68 (h:Hd)(l:List UInt8)(hl:l.length≤236):(blkL h l).length=256:=by simp[blkL,qmt h l hl,q0b]
def zrs (n:Nat):List UInt8:=List.replicate n 0
theorem q69 {P:Program}{t e:TypeId}(w:World)(T:ByteT P t e){ops:Array Oper}{rest:List Oper}{o:Oper}{a:Act}{Q:Exit→Act→World→Prop}
  (hg:o.guard=none) (l c:Operand) (hop:o.op=Op.makeSlice t l c) (kl kc:IntKind) (n:Nat) (hl:a.eval l=.int kl (n:Int)) (hc:a.eval c=.int kc (n:Int)) (b2:n≤281474976710656)
  (hK:∀w',Own w' w.heap.size e (some ⟨w.heap.size,0,none⟩) n n (zrs n)→Below w.heap.size w w'→wpList P ops Q rest (a.put o.dst (.slice (some ⟨w.heap.size,0,none⟩) n n)) w') :
  wpList P ops Q (o::rest) a w:=qc8 w T hg l c hop kl kc n hl hc b2 hK
theorem qan {α:Type}(X Y Z C:List α)(k:Nat)(hk:X.length=k)(h:Y.length=C.length):splice (X++(Y++Z)) k C=X++(C++Z):=by
 subst hk
 unfold splice
 have e:(X++(Y++Z)).drop (X.length+Y.length)=Z:=by rw[←List.append_assoc];exact List.drop_left' (by simp)
 rw[List.take_left' rfl,←h,e]
theorem lay2 (h:Hd)(l:List UInt8)(hl:l.length≤236):splice (splice (zrs 256) 4 (hdB h)) 20 l=List.replicate 4 0++restL h l:=by
 have e:(zrs 256)=List.replicate 4 0++(List.replicate 11 0++List.replicate 241 0):=by
  unfold zrs
  simp only[List.replicate_append_replicate]
 have e2:List.replicate 241 (0:UInt8)=List.replicate 5 0++(List.replicate l.length 0++List.replicate (236-l.length) 0):=by
  simp only[List.replicate_append_replicate]
  congr 1;omega
 rw[e,qan _ _ _ _ 4 (by simp) (by simp[q3v]),e2]
 have e3:List.replicate 4 (0:UInt8)++(hdB h++(List.replicate 5 0++(List.replicate l.length 0++List.replicate (236-l.length) 0)))=(List.replicate 4 0++(hdB h++List.replicate 5 0))++(List.replicate l.length 0++List.replicate (236-l.length) 0):=by simp
 rw[e3,qan _ _ _ _ 20 (by simp[q3v]) (by simp)]
 unfold restL
 simp
theorem lay3 (h:Hd)(l:List UInt8)(hl:l.length≤236):splice (splice (splice (zrs 256) 4 (hdB h)) 20 l) 0 (sumB (splice (splice (zrs 256) 4 (hdB h)) 20 l))=blkL h l:=by
 rw[lay2 h l hl]
 unfold sumB blkL splice
 have e:(List.replicate 4 (0:UInt8)++restL h l).drop 4=restL h l:=List.drop_left' (by simp)
 rw[e,q0b]
 simp
theorem qhm (l:List UInt8):(sumB l).length=4:=by simp[sumB,q0b]
theorem q1h (w:World)(base:Nat)(e:TypeId):Own w base e none 0 0 []:=⟨by simp,.inl ⟨rfl,rfl⟩⟩
theorem q3w (h:Hd)(A:Option Addr)(n c:Nat)(l:List UInt8)(w:World)(hs:Sl w A n c l)(ht:Tab w) :
  Calls Tryz.prog 90 #[.agg #[.int .i64 h.kind,.int .i64 h.addr,.int .i64 h.count,.int .i64 h.level,.int .i64 h.gen],.slice A n c] w fun e w'=>
   ∃A' n' c',e=.returned (.tuple #[.slice A' n' c',.int .i64 (sealE h l)])∧Own w' w.heap.size 5 A' n' c' (sealB h l)∧(sealE h l=0→∃g,A'=some ⟨g,0,none⟩∧n'=256∧c'=256)∧Below w.heap.size w w':=by
 have hlen:=hs.len
 have hcap:=hs.cap
 have hm:=hs.max
 unfold maxLen at hm
 by_cases hok:h.ok=true
 ·by_cases hl:l.length≤236
  ·have hE:sealE h l=0:=by unfold sealE;rw[if_pos hok,if_pos hl]
   have hB:sealB h l=blkL h l:=by unfold sealB;rw[if_pos hok,if_pos hl]
   rw[hE,hB]
   have hn:¬(236:Int)<(n:Int):=by omega
   go_enter Tryz.func90,Tryz.ntmps90
   go_wp2_with (first
    |(go_at_call 147;refine (q3h h _).mono ?_;rw[hok];rintro e w2 ⟨rfl,hb2⟩)
    |(at_make;refine q69 _ T22 rfl _ _ rfl _ _ 256 rfl rfl (by omega) ?_)
    |fail)
   intro w3 hown3 hb3
   have H3:HB w3 w.heap.size h:=(HB.below ⟨_,heap_alloc_new w _⟩ hb2 (by simp)).below hb3 (by have:=hb2.size;rw[World.size_alloc] at this;omega)
   have hz2:=hb2.size
   have hz3:=hb3.size
   rw[World.size_alloc] at hz2
   have hB3:Below w.heap.size w w3:=(blA).trans ((hb2.mono (by simp)).trans (hb3.mono (by omega)))
   have hs3:=hs.below hB3
   have ht3:=ht.below hB3 ht.1
   have hown3:=hown3.less (show w.heap.size≤w2.heap.size by omega)
   have L2:=lay2 h l hl
   have L3:=lay3 h l hl
   have hh:=q3v h
   have r0:w3.cell? ⟨w.heap.size,0,none⟩=some (.int .i64 h.kind):=H3.at_ 0
   have r1:w3.cell? ⟨w.heap.size,1,none⟩=some (.int .i64 h.addr):=H3.at_ 2
   have r2:w3.cell? ⟨w.heap.size,2,none⟩=some (.int .i64 h.count):=H3.at_ 3
   have r3:w3.cell? ⟨w.heap.size,3,none⟩=some (.int .i64 h.level):=H3.at_ 1
   have r4:w3.cell? ⟨w.heap.size,4,none⟩=some (.int .i64 h.gen):=H3.at_ 4
   clear hb2 hb3 H3
   go_wp2_with fail
   have hS:∀w':World,Below (w.heap.size+1) w3 w'→w'.cell? ⟨w.heap.size,0,none⟩=some (.int .i64 h.kind)∧w'.cell? ⟨w.heap.size,1,none⟩=some (.int .i64 h.addr)∧w'.cell? ⟨w.heap.size,2,none⟩=some (.int .i64 h.count)∧
    w'.cell? ⟨w.heap.size,3,none⟩=some (.int .i64 h.level)∧w'.cell? ⟨w.heap.size,4,none⟩=some (.int .i64 h.gen)∧Below (w.heap.size+1) w3 w':=fun w' b=>
    ⟨(b.cell (by show w.heap.size<_;omega)).trans r0,(b.cell (by show w.heap.size<_;omega)).trans r1,(b.cell (by show w.heap.size<_;omega)).trans r2,(b.cell (by show w.heap.size<_;omega)).trans r3,(b.cell (by show w.heap.size<_;omega)).trans r4,b⟩
   have BD:Below (w.heap.size+1) w3 w3.drew:=(Below.refl _ _).drew
   go_region_held3 (fun w'=>w'.cell? ⟨w.heap.size,0,none⟩=some (.int .i64 h.kind)∧w'.cell? ⟨w.heap.size,1,none⟩=some (.int .i64 h.addr)∧w'.cell? ⟨w.heap.size,2,none⟩=some (.int .i64 h.count)∧
    w'.cell? ⟨w.heap.size,3,none⟩=some (.int .i64 h.level)∧w'.cell? ⟨w.heap.size,4,none⟩=some (.int .i64 h.gen)∧Below (w.heap.size+1) w3 w')
    (first|assumption|exact hS _ BD|exact hS _ ‹Below (w.heap.size+1) w3 _›)
    (first
     |(go_at_call 148;refine (qj9 h _).mono ?_;rintro e w4 ⟨A4,n4,c4,rfl,hs4,hb4⟩;have hn4:=hs4.len;have bb4:Below (w.heap.size+1) w3 w4:=BD.trans (hb4.mono (by show _≤w3.heap.size;omega));have own4:=hown3.drew.below hb4)
     |(refine qft T22 rfl (.tmp 15) (.tmp 17) rfl w.heap.size w2.heap.size 256 (zrs 256) (by assumption) 4 252 252 rfl _ _ _ (hdB h) rfl (by assumption) (by omega) (by omega) ?_;intro w5 own5 hb5;have bb5:Below (w.heap.size+1) w3 w5:=bb4.trans (hb5.mono (by omega)))
     |fail)
   have hB5:Below w.heap.size w w5:=hB3.trans (bb5.mono (by omega))
   have hs5:=hs.below hB5
   clear hs3 ht3 hs4 own4 hown3 r0 r1 r2 r3 r4 hS BD
   go_wp2_with (first
    |((with_reducible show wpList _ _ _ _ _ _);refine q9d T22 rfl (.tmp 20) (.tmp 21) rfl w.heap.size w2.heap.size 256 _ own5 20 236 236 rfl A n c l rfl hs5 (by omega) (by omega) ?_;intro w6 own6 hb6;have hB6:=hB5.trans hb6;have ht6:=ht.below hB6 ht.1)
    |(go_at_call 149;refine (q72 _ 256 256 _ _ own6.sl (by omega) ht6).mono ?_;rintro e w7 ⟨A7,n7,c7,rfl,own7,hb7⟩;have hs7:n7≤4:=(by have h7:=own7.len;rw[qhm] at h7;omega);have own7b:=own6.below hb7)
    |((with_reducible show wpList _ _ _ _ _ _);refine q9d T22 rfl (.tmp 23) (.tmp 25) rfl w.heap.size w2.heap.size 256 _ own7b 0 256 256 rfl A7 n7 c7 _ rfl own7.sl (by omega) (by omega) ?_;intro w8 own8 hb8;have hB8:=hB6.trans ((hb7.mono (Below.size hB6)).trans hb8))
    |fail)
   go_ret2
   rw[L3] at own8
   exact⟨_,_,_,rfl,own8,fun _=>⟨_,rfl,rfl,rfl⟩,hB8⟩
  ·have hE:sealE h l=7:=by unfold sealE;rw[if_pos hok,if_neg hl]
   have hB:sealB h l=[]:=by unfold sealB;rw[if_pos hok,if_neg hl]
   rw[hE,hB]
   have hn:(236:Int)<(n:Int):=by omega
   go_enter Tryz.func90,Tryz.ntmps90
   go_wp2_with (first
    |(go_at_call 147;refine (q3h h _).mono ?_;rw[hok];rintro e w2 ⟨rfl,hb2⟩))
   go_ret2
   exact⟨_,_,_,rfl,q1h _ _ _,fun h=>by omega,(blA).trans (hb2.mono (by simp))⟩
 ·have hok':h.ok=false:=by simpa using hok
  have hE:sealE h l=1:=by unfold sealE;rw[if_neg hok]
  have hB:sealB h l=[]:=by unfold sealB;rw[if_neg hok]
  rw[hE,hB]
  go_enter Tryz.func90,Tryz.ntmps90
  go_wp2_with (first
   |(go_at_call 147;refine (q3h h _).mono ?_;rw[hok'];rintro e w2 ⟨rfl,hb2⟩))
  go_ret2
  exact⟨_,_,_,rfl,q1h _ _ _,fun h=>by omega,(blA).trans (hb2.mono (by simp))⟩
end Go.Proofs.YtipejjgodnnkaaaGreatDoor
