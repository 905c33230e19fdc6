/- Seal's fields, valid, packed, unpacked: the header's five numbers as a block holds them -/
import Derived.Test.YthkfkhejjmhomaaGreatDoorDz3
import Derived.Test.YthkfkhejjmhomaaGreatDoorDz4
import Derived.BigRegion
import Derived.StillTailTactics
import Derived.Deep.RegionHeld3
import Derived.Laws.CopyOwn
namespace Go.Proofs.YthkfkhejjmhomaaGreatDoor
open Go Go.RowKit Go.Proofs
set_option maxHeartbeats 4000000
set_option maxRecDepth 10000
structure Hd where
 kind:Int
 addr:Int
 count:Int
 level:Int
 gen:Int
def Hd.v (h:Hd):Value:=.agg #[.int .i64 h.kind,.int .i64 h.addr,.int .i64 h.count,.int .i64 h.level,.int .i64 h.gen]
def Hd.zero:Hd:=⟨0,0,0,0,0⟩
def Ym:Nat->Nat|0=>0|1=>3|2=>1|3=>2|_=>4
def Tn:Nat->Int|0=>1|1=>1|2=>2|3=>2|_=>5
def Qot:Nat->Int|0=>1|_=>0
def Qou:Nat->Int|0=>6|1=>8|2=>2047|3=>65535|_=>1099511627775
def Hd.Bl (h:Hd):Nat->Int|0=>h.kind|1=>h.level|2=>h.addr|3=>h.count|_=>h.gen
def Hd.set (h:Hd)(k:Nat)(x:Int):Hd:=match k with
 |0=>{ h with kind:=x }
 |1=>{ h with level:=x }
 |2=>{ h with addr:=x }
 |3=>{ h with count:=x }
 |_=>{ h with gen:=x }
def fv (d k:Nat):Value:=.agg #[.pointer (some ⟨d,Ym k,none⟩),.int .i64 (Tn k),.int .i64 (Qot k),.int .i64 (Qou k)]
def Qkg (d:Nat):List Value:=[.pointer (some ⟨d,0,none⟩),.int .i64 1,.int .i64 1,.int .i64 6,.pointer (some ⟨d,3,none⟩),.int .i64 1,.int .i64 0,.int .i64 8,
 .pointer (some ⟨d,1,none⟩),.int .i64 2,.int .i64 0,.int .i64 2047,.pointer (some ⟨d,2,none⟩),.int .i64 2,.int .i64 0,.int .i64 65535,.pointer (some ⟨d,4,none⟩),.int .i64 5,.int .i64 0,.int .i64 1099511627775]
def fvs (d:Nat):Value:=.agg (Qkg d).toArray
def HB (w:World)(d:Nat)(h:Hd):Prop:=∃t,w.1[d]?=some (.cells #[.int .i64 h.kind,.int .i64 h.addr,.int .i64 h.count,.int .i64 h.level,.int .i64 h.gen] t (0,0))
theorem Qw9 (w:World)(d:Array Value)(t:TypeId):(w.alloc (.cells d t)).there w.1.size 0 d.size:=λj f=>by
 have e:(w.alloc (.cells d t)).1[w.1.size]?=some (.cells d t (0,0)):=heap_alloc_new w _;refine⟨?_,by unfold World.frozen?;rw[e];simp⟩;rw[cell_of_row _ _ _ _ _ _ e,Nat.zero_add,Array.getElem?_eq_getElem f];rfl
theorem Sv {f:Func}{p:Tmp}{ty:TypeId}{g:Addr}{v:Value}{P:Program}{w:World}{d:Array Value}(h:f.results=#[.cell p ty])(q:d.getD p undef=.pointer (some g))(m:(loadVar ty g).run P w=.ok v w) :
  (results f d).run P w=.ok v w:=by
 have e:(results f d).run P w=((asAddr (d.getD p undef)).run P w).andThen λa u=>(loadVar ty a).run P u:=by
  simp only[results,h];simp[Sem.run_bind,Result.andThen];try rfl
 rw[e,q];simp[asAddr,m]
theorem idx (d k:Nat)(e:k<5)(w:World):(Instr.index 325 (fvs d) (.int .i64 (k:Int))).run Tryz.prog w=.ok (fv d k) w:=by
 match k,e with
 |0,_=>show (Instr.index 325 (fvs d) (.int .i64 0)).run Tryz.prog w=_;kernel_rfl
 |1,_=>show (Instr.index 325 (fvs d) (.int .i64 1)).run Tryz.prog w=_;kernel_rfl
 |2,_=>show (Instr.index 325 (fvs d) (.int .i64 2)).run Tryz.prog w=_;kernel_rfl
 |3,_=>show (Instr.index 325 (fvs d) (.int .i64 3)).run Tryz.prog w=_;kernel_rfl
 |4,_=>show (Instr.index 325 (fvs d) (.int .i64 4)).run Tryz.prog w=_;kernel_rfl
theorem Qei (d:Nat)(w:World) :
  Calls Tryz.prog 240 #[.pointer (some ⟨d,0,none⟩)] w λe y=>e=.returned (fvs d)/\Below w.1.size w y:=by
 go_enter Tryz.func240,Tryz.ntmps240
 go_wp2;generalize g:w.alloc _=f;go_still_tail 21,(by kernel_rfl)
 change wpList _ _ _ _ _ f.drew;have m:Below w.1.size w f:=by rw[<-g];exact Ib
 have u:f.drew.there w.1.size 0 20:=by
  show f.there w.1.size 0 20;rw[<-g];exact Qw9 w _ _
 clear g;refine wpList_store_mid rfl _ _ _ rfl w.1.size 0 (Qkg d).toArray rfl rfl u (by kernel_rfl) (by simp[Qkg,Value.oneCell']) ?_;have q:(f.drew.setCells w.1.size 0 (Qkg d)).rangeAt w.1.size 0 (Qkg d):=World.rangeAt_setCells_same _ _ _ _ u;have p:Below w.1.size w (f.drew.setCells w.1.size 0 (Qkg d)):=m.drew.trans ((Gg (S:=λk=>k=w.1.size) rfl (Qkg d) 0 f.drew).below (λx A=>by omega) (m.size));change wpList _ _ _ _ _ (f.drew.setCells w.1.size 0 (Qkg d));generalize f.drew.setCells w.1.size 0 (Qkg d)=z at q p ⊢;go_wp2;refine bodyPost_ret (v:=fvs d) ?_ rfl ⟨rfl,p⟩;exact Sv Tryz.results240 rfl (run_loadVar_mid z w.1.size 0 325 (Qkg d) _ q Tryz.underlying325 rfl (by kernel_rfl))
theorem HB.at_ {w:World}{bp:Nat}{h:Hd}(H:HB w bp h)(k:Nat):w.cell? ⟨bp,Ym k,none⟩=some (.int .i64 (h.Bl k)):=by
 obtain⟨t,H⟩:=H;rw[cell_of_row _ _ _ _ _ _ H];match k with
 |0=>rfl
 |1=>rfl
 |2=>rfl
 |3=>rfl
 |_+4=>rfl
theorem HB.below {w w':World}{bp:Nat}{h:Hd}(H:HB w bp h){B:Nat}(hb:Below B w w')(hB:bp<B):HB w' bp h:=by
 obtain⟨t,H⟩:=H;exact⟨t,(hb.block bp hB).trans H⟩
theorem Zep (d k:Nat)(e:k<5)(w:World):(Instr.index 325 (fvs d) (.int .i64 (k:Int))).run Tryz.prog w=.ok (.agg #[.pointer (some ⟨d,Ym k,none⟩),.int .i64 (Tn k),.int .i64 (Qot k),.int .i64 (Qou k)]) w:=idx d k e w
def Hd.in_ (h:Hd)(k:Nat):Prop:=Qot k<=h.Bl k/\h.Bl k<=Qou k
def Hd.ok (h:Hd):Bool:=decide ((1<=h.kind/\h.kind<=6)/\(0<=h.level/\h.level<=8)/\(0<=h.addr/\h.addr<=2047)/\(0<=h.count/\h.count<=65535)/\0<=h.gen/\h.gen<=1099511627775)
theorem Hd.Zfy (h:Hd)(H:∀j<5,h.in_ j):h.ok=true:=by
 have h0:=H 0 (by omega);have h1:=H 1 (by omega);have h2:=H 2 (by omega);have d:=H 3 (by omega);have e:=H 4 (by omega);exact decide_eq_true ⟨h0,h1,h2,d,e⟩
theorem Hd.Zdu (h:Hd)(H:h.ok=true)(j:Nat)(hj:j<5):h.in_ j:=by
 obtain⟨h0,h1,h2,d,e⟩:=of_decide_eq_true H;match j,hj with
 |0,_=>exact h0
 |1,_=>exact h1
 |2,_=>exact h2
 |3,_=>exact d
 |4,_=>exact e
theorem Qam (h:Hd)(w:World) :
  Calls Tryz.prog 198 #[.agg #[.int .i64 h.kind,.int .i64 h.addr,.int .i64 h.count,.int .i64 h.level,.int .i64 h.gen]] w λe W=>e=.returned (.bool h.ok)/\Below w.1.size w W:=by
 go_enter Tryz.func198,Tryz.ntmps198
 go_wp2_with (go_at_call 240;refine (Qei w.1.size _).mono ?_;rintro e M ⟨rfl,p⟩)
 have P:HB M w.1.size h:=HB.below ⟨_,heap_alloc_new w _⟩ p (by simp);have B:Below w.1.size w M:=(Ib).trans (p.mono (by simp));have K:=p.size;rw[World.size_alloc] at K;go_loopw [6] (λi wr=>∃k:Nat,k<=5/\i=.int .i64 (k:Int)/\(∀j<k,h.in_ j)/\HB wr w.1.size h/\Below w.1.size w wr/\w.1.size<wr.1.size) (λi _=>5-(intOf i).toNat)
 case atStart=>exact⟨0,by omega,rfl,λj Q=>by omega,P,B,by omega⟩
 case round=>
  obtain⟨k,Z,rfl,y,H,z,q⟩:=hrel;by_cases A:k<5
  ·have F:=Zep w.1.size k A;have D:=H.at_ k;have R:(0:Int)<=(k:Int):=by omega
   have E:∀o:Obj,(wr.alloc o).cell? ⟨w.1.size,Ym k,none⟩=some (.int .i64 (h.Bl k)):=λo=>((Below.refl _ _).alloc (Nat.le_refl _) o).cell q |>.trans D
   go_wp2;generalize g:wr.alloc _=d;have f:Below wr.1.size wr d:=by rw[<-g];exact Ib
   have hn:d.1[wr.1.size]?=some (.cells #[.pointer (some ⟨w.1.size,Ym k,none⟩),.int .i64 (Tn k),.int .i64 (Qot k),.int .i64 (Qou k)] 324 (0,0)):=by rw[<-g];exact heap_alloc_new wr _
   have U:d.1.size=wr.1.size+1:=by rw[<-g];simp
   clear g F;have q0:d.cell? ⟨wr.1.size,0,none⟩=some (.pointer (some ⟨w.1.size,Ym k,none⟩)):=by rw[cell_of_row _ _ _ _ _ _ hn];rfl
   have q2:d.cell? ⟨wr.1.size,2,none⟩=some (.int .i64 (Qot k)):=by rw[cell_of_row _ _ _ _ _ _ hn];rfl
   have q3:d.cell? ⟨wr.1.size,3,none⟩=some (.int .i64 (Qou k)):=by rw[cell_of_row _ _ _ _ _ _ hn];rfl
   have qc:d.cell? ⟨w.1.size,Ym k,none⟩=some (.int .i64 (h.Bl k)):=(f.cell q).trans D;have O:=H.below f q;have m:=z.trans (f.mono z.size);clear z H D E hn f;generalize V:h.Bl k=x at *;generalize T:Qot k=lo at *;generalize hm:Qou k=hi at *;by_cases h1:x<lo
   ·have u:h.ok=false:=by
     cases J:h.ok
     ·rfl
     ·have:=(h.Zdu J k A).1;omega
    go_quiet (fail)
    go_wp2;go_ret;exact⟨by first|rfl|(rw[u];rfl),below_drewN m _⟩
   ·have X:decide (x<lo)=false:=decide_eq_false h1;by_cases h2:hi<x
    ·have u:h.ok=false:=by
      cases J:h.ok
      ·rfl
      ·have:=(h.Zdu J k A).2;omega
     go_quiet (fail)
     go_wp2;go_ret;exact⟨by first|rfl|(rw[u];rfl),below_drewN m _⟩
    ·have Y:decide (hi<x)=false:=decide_eq_false h2;go_quiet (fail)
     go_wp2;refine⟨⟨k+1,by omega,rfl,λj Q=>?_,O.below (below_drewN (Below.refl d.1.size d) _) (by omega),below_drewN m _,by show w.1.size<d.1.size;omega⟩,by simp[intOf];omega⟩;by_cases G:j=k
     ·rw[G];unfold Hd.in_;rw[V,T,hm];omega
     ·exact y j (by omega)
  ·have I:k=5:=by omega
   go_wp2;go_ret;exact⟨by rw[h.Zfy (by rw[<-I];exact y)];rfl,z⟩
def hdB (h:Hd):List UInt8:=Zw h.kind 1++(Zw h.level 1++(Zw h.addr 2++(Zw h.count 2++Zw h.gen 5)))
def Qfd (h:Hd):Nat->List UInt8
 |0=>[]
 |k+1=>Qfd h k++Zw (h.Bl k) (Tn k).toNat
theorem Qyz (h:Hd)(k:Nat)(d:k<=5):(Qfd h k).length<=11:=by
 match k,d with
 |0,_=>simp[Qfd]
 |1,_=>simp[Qfd,Ye,Tn]
 |2,_=>simp[Qfd,Ye,Tn]
 |3,_=>simp[Qfd,Ye,Tn]
 |4,_=>simp[Qfd,Ye,Tn]
 |5,_=>simp[Qfd,Ye,Tn]
theorem Qyy (h:Hd):Qfd h 5=hdB h:=by simp[Qfd,hdB,Hd.Bl,Tn]
theorem Qtw (k:Nat):1<=Tn k/\Tn k<=5:=by
 match k with
 |0=>decide
 |1=>decide
 |2=>decide
 |3=>decide
 |_+4=>exact⟨by show (1:Int)<=5;omega,by show (5:Int)<=5;omega⟩
theorem Qsa (h:Hd)(w:World) :
  Calls Tryz.prog 199 #[.agg #[.int .i64 h.kind,.int .i64 h.addr,.int .i64 h.count,.int .i64 h.level,.int .i64 h.gen]] w λe P=>∃A n c,e=.returned (.slice A n c)/\Sl P A n c (hdB h)/\Below w.1.size w P:=by
 go_enter Tryz.func199,Tryz.ntmps199
 go_wp2_with (go_at_call 240;refine (Qei w.1.size _).mono ?_;rintro e Q ⟨rfl,q⟩)
 have U:HB Q w.1.size h:=HB.below ⟨_,heap_alloc_new w _⟩ q (by simp);have D:Below w.1.size w Q:=(Ib).trans (q.mono (by simp));have K:=q.size;rw[World.size_alloc] at K;go_loopw [3,7] (λs i wr=>∃(k:Nat) (A:Option Addr) (n c:Nat),k<=5/\s=.slice A n c/\i=.int .i64 (k:Int)/\Sl wr A n c (Qfd h k)/\HB wr w.1.size h/\Below w.1.size w wr/\w.1.size<wr.1.size) (λ_ i _=>5-(intOf i).toNat)
 case atStart=>exact⟨0,none,0,0,by omega,rfl,rfl,Sm _,U,D,by omega⟩
 case round=>
  obtain⟨k,A,n,c,X,rfl,rfl,z,H,B,y⟩:=hrel;by_cases V:k<5
  ·have F:=Zep w.1.size k V;have M:=H.at_ k;have Y:(0:Int)<=(k:Int):=by omega
   go_wp2;generalize m:wr.alloc _=p;have d:Below wr.1.size wr p:=by rw[<-m];exact Ib
   have hn:p.1[wr.1.size]?=some (.cells #[.pointer (some ⟨w.1.size,Ym k,none⟩),.int .i64 (Tn k),.int .i64 (Qot k),.int .i64 (Qou k)] 324 (0,0)):=by rw[<-m];exact heap_alloc_new wr _
   have a1:p.1.size=wr.1.size+1:=by rw[<-m];simp
   clear m F;have q0:p.cell? ⟨wr.1.size,0,none⟩=some (.pointer (some ⟨w.1.size,Ym k,none⟩)):=by rw[cell_of_row _ _ _ _ _ _ hn];rfl
   have q1:p.cell? ⟨wr.1.size,1,none⟩=some (.int .i64 (Tn k)):=by rw[cell_of_row _ _ _ _ _ _ hn];rfl
   have qc:p.cell? ⟨w.1.size,Ym k,none⟩=some (.int .i64 (h.Bl k)):=(d.cell y).trans M;have T:=H.below d y;have J:=z.below d;have u:=B.trans (d.mono B.size);have O:=z.len;have Z:=Qyz h k X;have W:=Qtw k;have I:Qgr (Qfd h k) (h.Bl k) (Tn k)=Qfd h (k+1):=by unfold Qgr;rw[if_pos (by omega)];rfl
   clear B H M hn d z;go_still_tail 7,(by kernel_rfl)
   change wpList _ _ _ _ _ p.drew;go_wp2_with (go_at_call 180;refine (put_any A n c (Qfd h k) (h.Bl k) (Tn k) _ J.drew (by omega)).mono ?_;rintro e w3 ⟨R,n3,c3,rfl,g,E⟩)
   rw[I] at g;have f:Below p.1.size p w3:=(Below.refl _ _).drew.trans E;exact⟨⟨k+1,R,n3,c3,by omega,rfl,rfl,g.sl,T.below f (by omega),u.trans (f.mono u.size),by have:=f.size;omega⟩,by simp[intOf];omega⟩
  ·have G:k=5:=by omega
   go_wp2;go_ret;rw[G,Qyy] at z;exact⟨A,n,c,rfl,z,B⟩
def Qd3:Nat->Nat|0=>0|1=>1|2=>2|3=>4|4=>6|_=>11
def rdF (l:List UInt8)(k:Nat):Nat:=Zo ((l.drop (Qd3 k)).take (Tn k).toNat)
def Ze1 (l:List UInt8):Nat->Hd
 |0=>Hd.zero
 |k+1=>(Ze1 l k).set k (rdF l k)
def Yo (l:List UInt8):Hd:=⟨Zo (l.take 1),Zo ((l.drop 2).take 2),Zo ((l.drop 4).take 2),Zo ((l.drop 1).take 1),Zo ((l.drop 6).take 5)⟩
theorem Zaf (l:List UInt8):Ze1 l 5=Yo l:=rfl
theorem Qvm (k:Nat)(d:k<5):Qd3 (k+1)=Qd3 k+(Tn k).toNat:=by
 match k,d with
 |0,_=>rfl
 |1,_=>rfl
 |2,_=>rfl
 |3,_=>rfl
 |4,_=>rfl
theorem Zcj (k:Nat)(d:k<=5):Qd3 k<=11:=by
 match k,d with
 |0,_=>decide
 |1,_=>decide
 |2,_=>decide
 |3,_=>decide
 |4,_=>decide
 |5,_=>decide
theorem HB.Xe {w:World}{bp:Nat}{h:Hd}(H:HB w bp h)(k:Nat)(x:Int):HB (w.setCell ⟨bp,Ym k,none⟩ (.int .i64 x)) bp (h.set k x):=by
 obtain⟨t,H⟩:=H;refine⟨t,(heap_setCell_same w bp (Ym k) _ t (.int .i64 x) H).trans ?_⟩;match k with
 |0=>rfl
 |1=>rfl
 |2=>rfl
 |3=>rfl
 |_+4=>rfl
theorem HB.fz {w:World}{bp:Nat}{h:Hd}(H:HB w bp h)(k:Nat):w.frozen? ⟨bp,Ym k,none⟩=false:=by
 obtain⟨t,H⟩:=H;unfold World.frozen?;rw[H];simp
theorem HB.zero (w:World)(t:TypeId):HB (w.alloc (.cells #[.int .i64 0,.int .i64 0,.int .i64 0,.int .i64 0,.int .i64 0] t)) w.1.size Hd.zero:=⟨t,heap_alloc_new w _⟩
theorem Own.turn {w w':World}{base n c:Nat}{e:TypeId}{A:Option Addr}{l:List UInt8}(h:Own w base e A n c l)(hk:∀g,base<=g->g<w.1.size->w'.1[g]?=w.1[g]?):Own w' base e A n c l:=by
 refine⟨h.1,?_⟩;rcases h.2 with f|⟨g,cap,d,f,h1,m,r⟩
 ·exact .inl f
 ·exact .inr ⟨g,cap,d,f,h1,(hk g h1 (Array.getElem?_eq_some_iff.1 m).1).trans m,r⟩
def Hd.vs (h:Hd):List Value:=[.int .i64 h.kind,.int .i64 h.addr,.int .i64 h.count,.int .i64 h.level,.int .i64 h.gen]
theorem HB.range {w:World}{bp:Nat}{h:Hd}(H:HB w bp h):w.rangeAt bp 0 h.vs:=λj v d=>by
 obtain⟨t,H⟩:=H;rw[cell_of_row _ _ _ _ _ _ H,Nat.zero_add];simpa [Hd.vs] using d
theorem HB.there {w:World}{bp:Nat}{h:Hd}(H:HB w bp h):w.there bp 0 5:=λj d=>by
 obtain⟨t,H⟩:=H;refine⟨?_,by unfold World.frozen?;rw[H];simp⟩;rw[cell_of_row _ _ _ _ _ _ H,Nat.zero_add,Array.getElem?_eq_getElem (by simpa using d)];rfl
theorem Qe0 {e:Array Oper}{d:List Oper}{o:Oper}{a:Act}{w:World}{Q:Exit->Act->World->Prop}(m:o.guard=none)(x:Operand)(f:o.op=Op.load 198 x)
  (b:Nat) (p:a.eval x=.pointer (some ⟨b,0,none⟩)) (h:Hd) (H:HB w b h) (g:wpList Tryz.prog e Q d (a.put o.dst h.v) w):wpList Tryz.prog e Q (o::d) a w:=
 wpList_load_mid m _ x f b 0 p h.vs _ H.range Tryz.underlying198 rfl (by kernel_rfl) g
theorem Lm {e:Array Oper}{d:List Oper}{o:Oper}{a:Act}{w:World}{Q:Exit->Act->World->Prop}(q:o.guard=none)(x y:Operand)(g:o.op=Op.store 198 x y)
  (b:Nat) (m:a.eval x=.pointer (some ⟨b,0,none⟩)) (h h0:Hd) (u:a.eval y=h.v) (H:HB w b h0) (A:b<w.1.size)
  (p:∀f,f.rangeAt b 0 h.vs->(∀B,B<=b->Below B w f)->Turn (λk=>k=b) w f->wpList Tryz.prog e Q d (a.put o.dst undef) f):wpList Tryz.prog e Q (o::d) a w:=
 wpList_store_mid q _ x y g b 0 h.vs.toArray m u H.there (by kernel_rfl) (by simp[Hd.vs,Value.oneCell'])
  (p _ (World.rangeAt_setCells_same _ _ _ _ H.there) (λB z=>(Gg (S:=λk=>k=b) rfl h.vs 0 w).below (λx m=>by omega) (by omega)) (Gg (S:=λk=>k=b) rfl h.vs 0 w))
theorem Qcl (A:Option Addr)(c:Nat)(l:List UInt8)(w:World)(hs:Sl w A 11 c l) :
  Calls Tryz.prog 210 #[.slice A 11 c] w λe f=>e=.returned (Yo l).v/\Below w.1.size w f:=by
 go_enter Tryz.func210,Tryz.ntmps210
 go_wp2_with (go_at_call 240;refine (Qei (w.1.size+1) _).mono ?_;rintro e w2 ⟨rfl,m⟩)
 have a1:=m.size;simp only[World.size_alloc] at a1 m;have E:Below w.1.size w w2:=(((Below.refl _ w).alloc (Nat.le_refl _) _).alloc (by simp) _).trans (m.mono (by omega));have hR:HB w2 w.1.size Hd.zero:=((HB.zero w _).below (Ib) (by simp)).below m (by omega);have hH:HB w2 (w.1.size+1) Hd.zero:=by
  have:=HB.zero (w.alloc (.cells #[.int .i64 0,.int .i64 0,.int .i64 0,.int .i64 0,.int .i64 0] 198)) 198;rw[World.size_alloc] at this;exact this.below m (by omega)
 clear m;have hl:=hs.len;go_loopw [0,7] (λs i wr=>∃(k:Nat) (A:Option Addr) (c:Nat),k<=5/\s=.slice A (11-Qd3 k) c/\i=.int .i64 (k:Int)/\Sl wr A (11-Qd3 k) c (l.drop (Qd3 k))/\HB wr w.1.size Hd.zero/\HB wr (w.1.size+1) (Ze1 l k)/\Below w.1.size w wr/\w.1.size+2<=wr.1.size) (λ_ i _=>5-(intOf i).toNat)
 case atStart=>exact⟨0,A,c,by omega,rfl,rfl,by simpa [Qd3] using hs.below E,hR,hH,E,by omega⟩
 case round=>
  obtain⟨k,A1,c1,hk,rfl,rfl,I,B,H,K,a7⟩:=hrel;by_cases h5:k<5
  ·have U:=Zep (w.1.size+1) k h5;have a6:(0:Int)<=(k:Int):=by omega
   go_wp2;generalize z:wr.alloc _=d;have u:Below wr.1.size wr d:=by rw[<-z];exact Ib
   have hn:d.1[wr.1.size]?=some (.cells #[.pointer (some ⟨w.1.size+1,Ym k,none⟩),.int .i64 (Tn k),.int .i64 (Qot k),.int .i64 (Qou k)] 324 (0,0)):=by rw[<-z];exact heap_alloc_new wr _
   have b0:d.1.size=wr.1.size+1:=by rw[<-z];simp
   clear z U;have q0:d.cell? ⟨wr.1.size,0,none⟩=some (.pointer (some ⟨w.1.size+1,Ym k,none⟩)):=by rw[cell_of_row _ _ _ _ _ _ hn];rfl
   have q1:d.cell? ⟨wr.1.size,1,none⟩=some (.int .i64 (Tn k)):=by rw[cell_of_row _ _ _ _ _ _ hn];rfl
   have H1:=H.below u (by omega);have O:=B.below u (by omega);have Z:=I.below u;have D:=K.trans (u.mono K.size);have X:=Qvm k h5;have a8:=Zcj (k+1) (by omega);have a2:=Qtw k;have R:(l.drop (Qd3 k)).drop (Tn k).toNat=l.drop (Qd3 (k+1)):=by rw[List.drop_drop,X]
   have Y:(Zo ((l.drop (Qd3 k)).take (Tn k).toNat):Int)=(rdF l k:Int):=rfl;clear K H hn u I B;have HT:=λ(f:World) (h':Sl f A1 (11-Qd3 k) c1 (l.drop (Qd3 k)))=>Qby A1 (11-Qd3 k) c1 (l.drop (Qd3 k)) (Tn k) f h' (by omega) (by omega) (by omega) (by omega)
   rw[R,Y] at HT;have P:∀f:World,Turn (λk=>k=w.1.size+1) d f->f.cell? ⟨wr.1.size,0,none⟩=some (.pointer (some ⟨w.1.size+1,Ym k,none⟩))/\f.cell? ⟨wr.1.size,1,none⟩=some (.int .i64 (Tn k))/\Turn (λk=>k=w.1.size+1) d f:=λf T=>⟨(World.cell?_of_block (T.block wr.1.size (by omega) (by show ¬(wr.1.size=w.1.size+1);omega))).trans q0,(World.cell?_of_block (T.block wr.1.size (by omega) (by show ¬(wr.1.size=w.1.size+1);omega))).trans q1,T⟩
   have TD:Turn (λk=>k=w.1.size+1) d d.drew:=Uk (Below.refl _ _).drew;go_region_held3 (λf=>f.cell? ⟨wr.1.size,0,none⟩=some (.pointer (some ⟨w.1.size+1,Ym k,none⟩))/\f.cell? ⟨wr.1.size,1,none⟩=some (.int .i64 (Tn k))/\Turn (λk=>k=w.1.size+1) d f)
    (first|assumption|exact P _ TD|(go_split_ands;exact P _ (Turn.then ‹Turn (λk=>k=w.1.size+1) d _› (Uk ‹Below (World.heap _).size _ _›)))|(go_split_ands;exact P _ (Turn.then ‹Turn (λk=>k=w.1.size+1) d _› (Gi _ rfl))))
    (first
     |(go_at_call 151;refine (HT _ Z.drew).mono ?_;rintro e J ⟨A3,n3,c3,rfl,y,Q⟩;have q:Below d.1.size d J:=(Below.refl _ d).drew.trans Q;have M:=H1.below q (by omega);have q5:=M.at_ k;have q6:=M.fz k)
     |fail)
   have W:n3=11-Qd3 (k+1):=by have:=y.len;rw[List.length_drop,hl] at this;omega
   subst W;go_wp2;have F:Below (w.1.size+1) J (J.setCell ⟨w.1.size+1,Ym k,none⟩ (.int .i64 (rdF l k:Int))):=(Below.refl _ J).setCell (p:=⟨w.1.size+1,Ym k,none⟩) (Nat.le_refl _) _;have b1:=q.size;refine⟨⟨k+1,A3,c3,by omega,rfl,rfl,?_,(O.below q (by omega)).below F (by omega),M.Xe k _,(D.trans (q.mono D.size)).trans (F.mono (by omega)),by show w.1.size+2<=(J.setCell _ _).1.size;rw[World.size_setCell];omega⟩,by simp[intOf];omega⟩;exact (y.turn λg hg _=>Below.heap_setCell _ _ _ _ (by show g≠w.1.size+1;have h1:d.drew.1.size=d.1.size:=rfl;omega)).sl
  ·have V:k=5:=by omega
   go_wp2_with (first
    |(refine Qe0 rfl _ rfl _ rfl _ H ?_)
    |(refine Lm rfl _ _ rfl _ rfl _ _ rfl B (by omega) ?_;intro w4 G q _))
   refine bodyPost_ret (v:=(Yo l).v) ?_ rfl ⟨rfl,?_⟩
   ·rw[V,Zaf] at G;exact Sv Tryz.results210 rfl (run_loadVar_mid _ w.1.size 0 198 _ _ G Tryz.underlying198 rfl (by kernel_rfl))
   ·exact K.trans (q _ (Nat.le_refl _))
theorem Qj0 {α β:Type}(f:α->β)(L:List α)(o:Nat)(d:List α):splice (L.map f) o (d.map f)=(splice L o d).map f:=by simp[splice]
theorem Own.whole {w:World}{base n g:Nat}{e:TypeId}{l:List UInt8}(h:Own w base e (some ⟨g,0,none⟩) n n l):base<=g/\w.1[g]?=some (.cells (l.map bv).toArray e (0,0))/\n<=maxLen:=by
 rcases h.2 with⟨f,_⟩|⟨B,cap,m,f,y,z,h1,h2,q,u⟩
 ·injection f with d;cases d
 ·injection f with d A p;injection d with d;injection d with d;subst d;subst p;refine⟨y,?_,h2⟩;rw[<-u,List.take_of_length_le (by simp[q])];exact z
theorem Own.of_whole {w:World}{base n g:Nat}{e:TypeId}{l:List UInt8}(hb:base<=g)(hg:w.1[g]?=some (.cells (l.map bv).toArray e (0,0)))(hl:l.length=n)(hm:n<=maxLen):Own w base e (some ⟨g,0,none⟩) n n l:=
 ⟨by simpa using hl,.inr ⟨g,n,_,rfl,hb,hg,Nat.le_refl _,hm,by simpa using hl,by rw[List.take_of_length_le (by simp[hl])]⟩⟩
theorem Qg3 {P:Program}{t e:TypeId}(T:U8 P t e){w:World}{A:Array Oper}{u:List Oper}{o:Oper}{a:Act}{Q:Exit->Act->World->Prop}(G:o.guard=none)(d s:Operand)
  (Z:o.op=.call { callee:=.builtin .copy,args:=#[d,s],argTypes:=#[t,t] })
  (base g n:Nat) (l:List UInt8) (q:Own w base e (some ⟨g,0,none⟩) n n l) (off p y:Nat) (hd:a.eval d=.slice (some ⟨g,off,none⟩) p y)
  (B:Option Addr) (m c:Nat) (K:List UInt8) (hs:a.eval s=.slice B m c) (I:Sl w B m c K) (H:m<=p) (O:off+m<=n)
  (V:∀D,Own D base e (some ⟨g,0,none⟩) n n (splice l off K)->Below base w D->wpList P A Q u (a.put o.dst (goInt m)) D):wpList P A Q (o::u) a w:=by
 obtain⟨i,hi,a1,J,a2⟩:=info_parts T.info;obtain⟨M,X,hm⟩:=q.whole;have Y:=q.len;have z:=I.len;refine wpList_copy_splice G d s t t Z e T.sl (by rw[hi];simp[J]) _ _ _ _ _ _ hd hs g off (l.map bv) e X (K.map bv) (by rw[List.length_map,z];exact (Nat.min_eq_left H).symm) (λh0=>?_) (by simp;omega) (Qh6 _) base w (Below.refl _ _) M ?_
 ·rw[List.length_map] at h0;obtain⟨R,rfl,_⟩:=I.cell (k:=0) (by omega);refine⟨rfl,R,rfl,λj v hv=>?_⟩;obtain⟨U,E,_,W⟩:=I.2.2.2 j v hv;injection E with E;subst E;exact W
 ·intro D f F;have f:=f.out;rw[Qj0] at f;have:=V D (Own.of_whole M f (by rw[length_splice _ _ _ (by omega),Y]) hm) F;rw[List.length_map,z];exact this
theorem Qqb {P:Program}{t e:TypeId}(T:U8 P t e){w:World}{M:Array Oper}{o:Oper}{a:Act}{K:Act->World->Prop}{Q:Exit->Act->World->Prop}{E:Prop}(F:o.guard=none)(d s:Operand)
  (ho:o.op=.call { callee:=.builtin .copy,args:=#[d,s],argTypes:=#[t,t] })
  (base g n:Nat) (l:List UInt8) (q:Own w base e (some ⟨g,0,none⟩) n n l) (off p u:Nat) (hd:a.eval d=.slice (some ⟨g,off,none⟩) p u)
  (B:Option Addr) (m c:Nat) (J:List UInt8) (hs:a.eval s=.slice B m c) (H:Sl w B m c J) (G:m<=p) (O:off+m<=n)
  (V:∀z,Own z base e (some ⟨g,0,none⟩) n n (splice l off J)->Below g w z->K (a.put o.dst (goInt m)) z):if Region.wanted o (yielded M a.tmps)=true then Oper.wp P o a w K Q else E:=by
 obtain⟨i,hi,a1,I,a2⟩:=info_parts T.info;obtain⟨W,Y,hm⟩:=q.whole;have Z:=q.len;have y:=H.len;refine step_copy_splice F d s t t ho e T.sl (by rw[hi];simp[I]) _ _ _ _ _ _ hd hs g off (l.map bv) e Y (J.map bv) (by rw[List.length_map,y];exact (Nat.min_eq_left G).symm) (λh0=>?_) (by simp;omega) (Qh6 _) g w (Below.refl _ _) (Nat.le_refl _) ?_
 ·rw[List.length_map] at h0;obtain⟨R,rfl,_⟩:=H.cell (k:=0) (by omega);refine⟨rfl,R,rfl,λj v hv=>?_⟩;obtain⟨U,A,_,X⟩:=H.2.2.2 j v hv;injection A with A;subst A;exact X
 ·intro z f D;have f:=f.out;rw[Qj0] at f;have:=V z (Own.of_whole W f (by rw[length_splice _ _ _ (by omega),Z]) hm) D;rw[List.length_map,y];exact this
def U3 (l:List UInt8):List UInt8:=Zw (more 0 (l.drop 4):Nat) 4
theorem Qev (A:Option Addr)(n c:Nat)(l:List UInt8)(w:World)(q:Sl w A n c l)(hn:5<=n)(F:Tab w) :
  Calls Tryz.prog 200 #[.slice A n c] w λe E=>∃u D y,e=.returned (.slice u D y)/\Own E w.1.size 5 u D y (U3 l)/\Below w.1.size w E:=by
 have I:=q.cap;have hm:=q.max;unfold maxLen at hm;have z:=q.drop (k:=4) (by omega);have m:¬c=4:=by omega
 rw[if_neg m] at z;have p:=Zcy 0 (l.drop 4);generalize B:more 0 (l.drop 4)=s at p;have f:Qgr [] (s:Int) 4=U3 l:=by unfold Qgr U3;rw[B];simp
 go_enter Tryz.func200,Tryz.ntmps200
 go_wp2_with (first
  |(go_at_call 241;refine (sum_any _ (n-4) (c-4) (l.drop 4) _ z F).mono ?_;rw[B];rintro e G ⟨rfl,rfl⟩)
  |(go_at_call 180;refine (put_any none 0 0 [] (s:Int) 4 _ (Sm _) (by omega)).mono ?_;rw[f];rintro e G ⟨H,J,c3,rfl,d,g⟩))
 go_ret;exact⟨_,_,_,rfl,d,g⟩
def Wl (l:List UInt8):Bool:=l.all (·==0)
theorem Qhd (A:Option Addr)(n c:Nat)(l:List UInt8)(w:World)(f:Sl w A n c l) :
  Calls Tryz.prog 211 #[.slice A n c] w λe G=>e=.returned (.bool (Wl l))/\w=G:=by
 have J:=f.cap;have hm:=f.max;have z:=f.len;unfold maxLen at hm;go_enter Tryz.func211,Tryz.ntmps211
 go_wp2;go_loop [7] (λi=>∃k:Nat,k<=n/\i=.int .i64 (k:Int)/\∀j<k,Xy l j=0) (λi=>n-(intOf i).toNat)
 case atStart=>exact⟨0,Nat.zero_le _,rfl,λj p=>by omega⟩
 case round=>
  obtain⟨k,K,rfl,d⟩:=hrel;by_cases u:k<n
  ·obtain⟨H,rfl,I,m⟩:=f.cell u;have B:=Ub l k;by_cases h0:Xy l k=0
   ·have g:(Xy l k:Int)=0:=by omega
    go_wp2;exact⟨⟨k+1,by omega,by go_num,λj p=>by by_cases q:j=k;(rw[q];exact h0);exact d j (by omega)⟩,by simp[intOf];omega⟩
   ·have g:¬(Xy l k:Int)=0:=by omega
    have y:Wl l=false:=by
     cases E:Wl l
     ·rfl
     ·have:=List.all_eq_true.1 E (l.getD k 0) (by rw[List.getD_eq_getElem?_getD,List.getElem?_eq_getElem (by omega)];simp);simp at this;unfold Xy at h0;rw[List.getD_eq_getElem?_getD,this] at h0;exact absurd rfl h0
    go_wp2;go_ret;exact⟨by first|rfl|(rw[y];rfl),rfl⟩
  ·have D:k=n:=by omega
   have y:Wl l=true:=by
    refine List.all_eq_true.2 λx F=>?_
    obtain⟨j,p,rfl⟩:=List.getElem_of_mem F;have:=d j (by omega);unfold Xy at this;rw[List.getD_eq_getElem?_getD,List.getElem?_eq_getElem p] at this;simpa using UInt8.toNat_inj.1 this
   go_wp2;go_ret;exact⟨by first|rfl|(rw[y];rfl),rfl⟩
def J4 (h:Hd)(l:List UInt8):List UInt8:=hdB h++(List.replicate 5 0++(l++List.replicate (236-l.length) 0))
def Zl (h:Hd)(l:List UInt8):List UInt8:=Zw (more 0 (J4 h l):Nat) 4++J4 h l
def J5 (h:Hd)(l:List UInt8):Int:=if h.ok=true then if l.length<=236 then 0 else 7 else 1
def Xu (h:Hd)(l:List UInt8):List UInt8:=if h.ok=true then if l.length<=236 then Zl h l else [] else []
theorem q3z (h:Hd):(hdB h).length=11:=by simp[hdB,Ye]
theorem D6 (h:Hd)(l:List UInt8)(d:l.length<=236):(J4 h l).length=252:=by simp[J4,q3z];omega
theorem Ut (h:Hd)(l:List UInt8)(d:l.length<=236):(Zl h l).length=256:=by simp[Zl,D6 h l d,Ye]
def zrs (n:Nat):List UInt8:=List.replicate n 0
theorem Qd1 {P:Program}{t e:TypeId}(w:World)(T:U8 P t e){f:Array Oper}{d:List Oper}{o:Oper}{a:Act}{Q:Exit->Act->World->Prop}
  (z:o.guard=none) (l c:Operand) (g:o.op=Op.makeSlice t l c) (p kc:IntKind) (n:Nat) (A:a.eval l=.int p (n:Int)) (y:a.eval c=.int kc (n:Int)) (q:n<=281474976710656)
  (u:∀m,Own m w.1.size e (some ⟨w.1.size,0,none⟩) n n (zrs n)->Below w.1.size w m->wpList P f Q d (a.put o.dst (.slice (some ⟨w.1.size,0,none⟩) n n)) m) :
  wpList P f Q (o::d) a w:=Qmh w T z l c g p kc n A y q u
theorem Qj1 {α:Type}(X Y Z C:List α)(k:Nat)(d:X.length=k)(h:Y.length=C.length):splice (X++(Y++Z)) k C=X++(C++Z):=by
 subst d;unfold splice;have e:(X++(Y++Z)).drop (X.length+Y.length)=Z:=by rw[<-List.append_assoc];exact List.drop_left' (by simp)
 rw[List.take_left' rfl,<-h,e]
theorem Zft (h:Hd)(l:List UInt8)(g:l.length<=236):splice (splice (zrs 256) 4 (hdB h)) 20 l=List.replicate 4 0++J4 h l:=by
 have e:(zrs 256)=List.replicate 4 0++(List.replicate 11 0++List.replicate 241 0):=by
  unfold zrs;simp only[List.replicate_append_replicate]
 have d:List.replicate 241 (0:UInt8)=List.replicate 5 0++(List.replicate l.length 0++List.replicate (236-l.length) 0):=by
  simp only[List.replicate_append_replicate];congr 1;omega
 rw[e,Qj1 _ _ _ _ 4 (by simp) (by simp[q3z]),d];have f:List.replicate 4 (0:UInt8)++(hdB h++(List.replicate 5 0++(List.replicate l.length 0++List.replicate (236-l.length) 0)))=(List.replicate 4 0++(hdB h++List.replicate 5 0))++(List.replicate l.length 0++List.replicate (236-l.length) 0):=by simp
 rw[f,Qj1 _ _ _ _ 20 (by simp[q3z]) (by simp)];unfold J4;simp
theorem Zga (h:Hd)(l:List UInt8)(d:l.length<=236):splice (splice (splice (zrs 256) 4 (hdB h)) 20 l) 0 (U3 (splice (splice (zrs 256) 4 (hdB h)) 20 l))=Zl h l:=by
 rw[Zft h l d];unfold U3 Zl splice;have e:(List.replicate 4 (0:UInt8)++J4 h l).drop 4=J4 h l:=List.drop_left' (by simp);rw[e,Ye];simp
theorem Za8 (l:List UInt8):(U3 l).length=4:=by simp[U3,Ye]
theorem Qa9 (w:World)(base:Nat)(e:TypeId):Own w base e none 0 0 []:=⟨by simp,.inl ⟨rfl,rfl⟩⟩
theorem Qdc (h:Hd)(A:Option Addr)(n c:Nat)(l:List UInt8)(w:World)(R:Sl w A n c l)(W:Tab w) :
  Calls Tryz.prog 122 #[.agg #[.int .i64 h.kind,.int .i64 h.addr,.int .i64 h.count,.int .i64 h.level,.int .i64 h.gen],.slice A n c] w λe p=>
   ∃X n' c',e=.returned (.tuple #[.slice X n' c',.int .i64 (J5 h l)])/\Own p w.1.size 5 X n' c' (Xu h l)/\(J5 h l=0->∃g,X=some ⟨g,0,none⟩/\n'=256/\c'=256)/\Below w.1.size w p:=by
 have b6:=R.len;have b5:=R.cap;have hm:=R.max;unfold maxLen at hm;by_cases f:h.ok=true
 ·by_cases H:l.length<=236
  ·have M:J5 h l=0:=by unfold J5;rw[if_pos f,if_pos H]
   have J:Xu h l=Zl h l:=by unfold Xu;rw[if_pos f,if_pos H]
   rw[M,J];have hn:¬(236:Int)<(n:Int):=by omega
   go_enter Tryz.func122,Tryz.ntmps122
   go_wp2_with (first
    |(go_at_call 198;refine (Qam h _).mono ?_;rw[f];rintro e I ⟨rfl,d⟩)
    |(at_make;refine Qd1 _ T22 rfl _ _ rfl _ _ 256 rfl rfl (by omega) ?_)
    |fail)
   intro q m u;have G:HB q w.1.size h:=(HB.below ⟨_,heap_alloc_new w _⟩ d (by simp)).below u (by have:=d.size;rw[World.size_alloc] at this;omega);have b4:=d.size;have b9:=u.size;rw[World.size_alloc] at b4;have D:Below w.1.size w q:=(Ib).trans ((d.mono (by simp)).trans (u.mono (by omega)));have b0:=R.below D;have b2:=W.below D W.1;have m:=m.less (show w.1.size<=I.1.size by omega);have L2:=Zft h l H;have L3:=Zga h l H;have hh:=q3z h;have r0:q.cell? ⟨w.1.size,0,none⟩=some (.int .i64 h.kind):=G.at_ 0;have r1:q.cell? ⟨w.1.size,1,none⟩=some (.int .i64 h.addr):=G.at_ 2;have r2:q.cell? ⟨w.1.size,2,none⟩=some (.int .i64 h.count):=G.at_ 3;have r3:q.cell? ⟨w.1.size,3,none⟩=some (.int .i64 h.level):=G.at_ 1;have r4:q.cell? ⟨w.1.size,4,none⟩=some (.int .i64 h.gen):=G.at_ 4;clear d u G;go_wp2_with fail
   have hS:∀p:World,Below (w.1.size+1) q p->p.cell? ⟨w.1.size,0,none⟩=some (.int .i64 h.kind)/\p.cell? ⟨w.1.size,1,none⟩=some (.int .i64 h.addr)/\p.cell? ⟨w.1.size,2,none⟩=some (.int .i64 h.count)/\
    p.cell? ⟨w.1.size,3,none⟩=some (.int .i64 h.level)/\p.cell? ⟨w.1.size,4,none⟩=some (.int .i64 h.gen)/\Below (w.1.size+1) q p:=λp b=>
    ⟨(b.cell (by show w.1.size<_;omega)).trans r0,(b.cell (by show w.1.size<_;omega)).trans r1,(b.cell (by show w.1.size<_;omega)).trans r2,(b.cell (by show w.1.size<_;omega)).trans r3,(b.cell (by show w.1.size<_;omega)).trans r4,b⟩
   have Y:Below (w.1.size+1) q q.drew:=(Below.refl _ _).drew;go_region_held3 (λp=>p.cell? ⟨w.1.size,0,none⟩=some (.int .i64 h.kind)/\p.cell? ⟨w.1.size,1,none⟩=some (.int .i64 h.addr)/\p.cell? ⟨w.1.size,2,none⟩=some (.int .i64 h.count)/\
    p.cell? ⟨w.1.size,3,none⟩=some (.int .i64 h.level)/\p.cell? ⟨w.1.size,4,none⟩=some (.int .i64 h.gen)/\Below (w.1.size+1) q p)
    (first|assumption|exact hS _ Y|exact hS _ ‹Below (w.1.size+1) q _›)
    (first
     |(go_at_call 199;refine (Qsa h _).mono ?_;rintro e w4 ⟨A4,n4,c4,rfl,T,O⟩;have b7:=T.len;have Z:Below (w.1.size+1) q w4:=Y.trans (O.mono (by show _<=q.1.size;omega));have U:=m.drew.below O)
     |(refine Qqb T22 rfl (.tmp 15) (.tmp 17) rfl w.1.size I.1.size 256 (zrs 256) (by assumption) 4 252 252 rfl _ _ _ (hdB h) rfl (by assumption) (by omega) (by omega) ?_;intro w5 V a6;have a1:Below (w.1.size+1) q w5:=Z.trans (a6.mono (by omega)))
     |fail)
   have K:Below w.1.size w w5:=D.trans (a1.mono (by omega));have b1:=R.below K;clear b0 b2 T U m r0 r1 r2 r3 r4 hS Y;go_wp2_with (first
    |((with_reducible show wpList _ _ _ _ _ _);refine Qg3 T22 rfl (.tmp 20) (.tmp 21) rfl w.1.size I.1.size 256 _ V 20 236 236 rfl A n c l rfl b1 (by omega) (by omega) ?_;intro w6 y a7;have E:=K.trans a7;have b3:=W.below E W.1)
    |(go_at_call 200;refine (Qev _ 256 256 _ _ y.sl (by omega) b3).mono ?_;rintro e w7 ⟨A7,n7,c7,rfl,z,P⟩;have b8:n7<=4:=(by have h7:=z.len;rw[Za8] at h7;omega);have F:=y.below P)
    |((with_reducible show wpList _ _ _ _ _ _);refine Qg3 T22 rfl (.tmp 23) (.tmp 25) rfl w.1.size I.1.size 256 _ F 0 256 256 rfl A7 n7 c7 _ rfl z.sl (by omega) (by omega) ?_;intro w8 B a8;have a2:=E.trans ((P.mono (Below.size E)).trans a8))
    |fail)
   go_ret2;rw[L3] at B;exact⟨_,_,_,rfl,B,λ_=>⟨_,rfl,rfl,rfl⟩,a2⟩
  ·have M:J5 h l=7:=by unfold J5;rw[if_pos f,if_neg H]
   have J:Xu h l=[]:=by unfold Xu;rw[if_pos f,if_neg H]
   rw[M,J];have hn:(236:Int)<(n:Int):=by omega
   go_enter Tryz.func122,Tryz.ntmps122
   go_wp2_with (first
    |(go_at_call 198;refine (Qam h _).mono ?_;rw[f];rintro e I ⟨rfl,d⟩))
   go_ret2;exact⟨_,_,_,rfl,Qa9 _ _ _,λh=>by omega,(Ib).trans (d.mono (by simp))⟩
 ·have Q:h.ok=false:=by simpa using f
  have M:J5 h l=1:=by unfold J5;rw[if_neg f]
  have J:Xu h l=[]:=by unfold Xu;rw[if_neg f]
  rw[M,J];go_enter Tryz.func122,Tryz.ntmps122
  go_wp2_with (first
   |(go_at_call 198;refine (Qam h _).mono ?_;rw[Q];rintro e I ⟨rfl,d⟩))
  go_ret2;exact⟨_,_,_,rfl,Qa9 _ _ _,λh=>by omega,(Ib).trans (d.mono (by simp))⟩
theorem Lu {g:Func}{p a b:Tmp}{ty:TypeId}{f:Addr}{v:Value}{P:Program}{w:World}{d:Array Value}(h:g.results=#[.cell p ty,.tmp a,.tmp b])(q:d.getD p undef=.pointer (some f))(m:(loadVar ty f).run P w=.ok v w) :
  (results g d).run P w=.ok (.tuple #[v,d.getD a undef,d.getD b undef]) w:=by
 have e:(results g d).run P w=((asAddr (d.getD p undef)).run P w).andThen λf u=>((loadVar ty f).run P u).andThen λv y=>.ok (.tuple #[v,d.getD a undef,d.getD b undef]) y:=by
  simp only[results,h];simp[Sem.run_bind,Result.andThen]
 rw[e,q];simp[asAddr,m]
theorem Qdp {w:World}{b:Nat}{h:Hd}(d:w.rangeAt b 0 h.vs):(loadVar 198 ⟨b,0,none⟩).run Tryz.prog w=.ok h.v w:=
 run_loadVar_mid w b 0 198 h.vs _ d Tryz.underlying198 rfl (by kernel_rfl)
theorem Qde {w:World}{A:Option Addr}{n c:Nat}{l:List UInt8}(h:Sl w A n c l):(convert 48 9 (.slice A n c)).run Tryz.prog w=.ok (.string ⟨l.toArray⟩) w:=
 Qhh _ _ _ T22 Tryz.underlying5 Tryz.underlying9 h
def okB (l:List UInt8):Bool:=decide (l.length=256/\l.take 4=U3 l/\(Yo ((l.drop 4).take 11)).ok=true/\Wl ((l.drop 15).take 5)=true)
def Vk (l:List UInt8):Hd:=if okB l=true then Yo ((l.drop 4).take 11) else Hd.zero
def Gf (l:List UInt8):List UInt8:=if okB l=true then l.drop 20 else []
def Cm (l:List UInt8):Int:=if okB l=true then 0 else 3
theorem Qe1 {e:Array Oper}{d:List Oper}{o:Oper}{a:Act}{w:World}{Q:Exit->Act->World->Prop}(m:o.guard=none)(x:Operand)(f:o.op=Op.load 198 x)
  (b:Nat) (p:a.eval x=.pointer (some ⟨b,0,none⟩)) (h:Hd) (H:w.rangeAt b 0 h.vs) (g:wpList Tryz.prog e Q d (a.put o.dst h.v) w):wpList Tryz.prog e Q (o::d) a w:=
 wpList_load_mid m _ x f b 0 p h.vs _ H Tryz.underlying198 rfl (by kernel_rfl) g
theorem Qba {w w':World}{b:Nat}{vs:List Value}(h:w.rangeAt b 0 vs){B:Nat}(e:Below B w w')(d:b<B):w'.rangeAt b 0 vs:=λj v f=>(e.cell (p:=⟨b,0+j,none⟩) d).trans (h j v f)
theorem Zdp (n:Nat):(zrs n).length=n:=List.length_replicate
theorem Qst (L C:List UInt8)(h:L.length=C.length):splice L 0 C=C:=by
 unfold splice;rw[List.take_zero,List.nil_append,List.drop_of_length_le (by omega),List.append_nil]
theorem Qqz {w d e:World}{H:Hd}{o:Obj}(p:e.rangeAt d.1.size 0 H.vs)(f:∀B,B<=d.1.size->Below B (d.alloc o) e)(g:HB d w.1.size Hd.zero)(m:Below w.1.size w d)(q:w.1.size<d.1.size) :
  e.rangeAt d.1.size 0 H.vs/\Below w.1.size w e/\HB e w.1.size Hd.zero/\d.1.size<e.1.size:=by
 have h1:Below d.1.size d e:=((Below.refl _ _).alloc (Nat.le_refl _) o).trans (f _ (Nat.le_refl _));have h2:=(f _ (Nat.le_refl _)).size;rw[World.size_alloc] at h2;exact⟨p,m.trans (h1.mono (by omega)),g.below h1 q,by omega⟩
theorem cuts {w:World}{d:Addr}{c:Nat}{l:List UInt8}(e:Sl w (some d) 256 c l):Sl w (some (d.add 15)) 5 (c-15) ((l.drop 15).take 5)/\Sl w (some (d.add 20)) 236 (c-20) (l.drop 20):=by
 have f:=e.cap;have h1:=(e.drop (k:=15) (by omega)).take (k:=5) (by omega);have h2:=e.drop (k:=20) (by omega);rw[if_neg (by omega)] at h1 h2;exact⟨h1,h2⟩
def Ox (A:Option Addr)(n c:Nat)(l:List UInt8)(w:World):Prop:=
  Calls Tryz.prog 139 #[.slice A n c] w λe m=>
   ∃d g f,e=.returned (.tuple #[(Vk l).v,.slice d g f,.int .i64 (Cm l)])/\Own m w.1.size 5 d g f (Gf l)/\Below w.1.size w m
theorem Qje {l:List UInt8}(h:okB l=false):Vk l=Hd.zero/\Gf l=[]/\Cm l=3:=by
 unfold Vk Gf Cm;rw[h];exact⟨rfl,rfl,rfl⟩
theorem Qcc {l:List UInt8}(h:okB l=true):Vk l=Yo ((l.drop 4).take 11)/\Gf l=l.drop 20/\Cm l=0:=by
 unfold Vk Gf Cm;rw[h];exact⟨rfl,rfl,rfl⟩
theorem Zc3 (ad:Addr)(c:Nat)(l:List UInt8)(w:World)(hs:Sl w (some ad) 256 c l)(ht:Tab w)(b3:l.take 4=U3 l):Ox (some ad) 256 c l w:=by
 unfold Ox;have X:=hs.len;have c8:=hs.cap;have hm:=hs.max;unfold maxLen at hm;have HZ:=HB.zero w 198;have F:Below w.1.size w (w.alloc (.cells #[.int .i64 0,.int .i64 0,.int .i64 0,.int .i64 0,.int .i64 0] 198)):=Ib;have b5:w.1.size<(w.alloc (.cells #[.int .i64 0,.int .i64 0,.int .i64 0,.int .i64 0,.int .i64 0] 198)).1.size:=by simp
 obtain⟨H,hH⟩:∃H,Yo ((l.drop 4).take 11)=H:=⟨_,rfl⟩;have a7:=congrArg (λx:List UInt8=>(⟨x.toArray⟩:ByteArray)) b3;obtain⟨S1,hS⟩:∃S1,(⟨(U3 l).toArray⟩:ByteArray)=S1:=⟨_,rfl⟩;have a8:(⟨(l.take 4).toArray⟩:ByteArray)=S1:=a7.trans hS;clear a7;go_enter Tryz.func139,Tryz.ntmps139
 go_wp2;generalize (w.alloc (.cells #[.int .i64 0,.int .i64 0,.int .i64 0,.int .i64 0,.int .i64 0] 198))=w1 at HZ F b5 ⊢;have O:=hs.below F;have c7:=ht.below F ht.1;have k1:=Qde (O.take (k:=4) (by omega)).drew;rw[a8] at k1;go_region_with (first
  |(go_at_call 200;refine (Qev _ 256 c l _ O.drew (by omega) c7).mono ?_;rintro e w3 ⟨A3,n3,c3,rfl,Y,b1⟩;have y:Below w1.1.size w1 w3:=Below.trans (Below.refl _ w1).drew b1;have k2:=Qde ((O.below y).take (k:=4) (by omega));have k3:=Qde Y.sl;rw[a8] at k2;rw[hS] at k3)
  |fail)
 all_goals
  have Z:=HZ.below y b5;have d1:=y.size;have b9:=O.below y;have A:=F.trans (y.mono F.size);have V:=(b9.drop (k:=4) (by omega)).take (k:=11) (by omega);rw[if_neg (show ¬c=4 by omega)] at V;clear k1 k2 k3 Y b1 O HZ
  cases J:H.ok
  ·have a1:okB l=false:=decide_eq_false (λh=>by have:=h.2.2.1;rw[hH,J] at this;cases this);go_wp2_with (first
    |(go_at_call 210;refine (Qcl _ (c-4) _ _ V).mono ?_;rw[hH];rintro e U ⟨rfl,m⟩;have B:=Z.below m (by omega);have b6:=m.size)
    |(refine Lm rfl (.tmp 5) (.tmp 22) rfl U.1.size rfl H _ rfl (HB.zero U _) (by simp) ?_;intro w6 K G _;obtain⟨f,u,D,R⟩:=Qqz K G B (A.trans (m.mono A.size)) (by omega))
    |(refine Qe1 rfl (.tmp 5) rfl U.1.size rfl H (by first|exact f|assumption) ?_)
    |(go_at_call 198;refine (Qam H _).mono ?_;rw[J];rintro e w7 ⟨rfl,d⟩;have E:=D.below d (by omega);have p:=u.trans (d.mono u.size);have a2:=Qba f d R;have b7:=d.size;have Q:=hs.below p;obtain⟨z,P⟩:=cuts Q)
    |(refine Lm rfl (.tmp 2) (.tmp 32) rfl w.1.size rfl Hd.zero _ rfl E (by omega) ?_;intro wz M I Tz)
    |fail)
   refine bodyPost_ret (Lu Tryz.results139 rfl (Qdp M)) rfl ?_;obtain⟨h1,h2,h3⟩:=Qje (l:=l) a1;rw[h1,h2,h3];exact⟨_,_,_,rfl,Qa9 _ _ _,p.trans (I _ (Nat.le_refl _))⟩
  ·cases W:Wl ((l.drop 15).take 5)
   ·have a1:okB l=false:=decide_eq_false (λh=>by have:=h.2.2.2;rw[W] at this;cases this);go_wp2_with (first
     |(go_at_call 210;refine (Qcl _ (c-4) _ _ V).mono ?_;rw[hH];rintro e U ⟨rfl,m⟩;have B:=Z.below m (by omega);have b6:=m.size)
     |(refine Lm rfl (.tmp 5) (.tmp 22) rfl U.1.size rfl H _ rfl (HB.zero U _) (by simp) ?_;intro w6 K G _;obtain⟨f,u,D,R⟩:=Qqz K G B (A.trans (m.mono A.size)) (by omega))
     |(refine Qe1 rfl (.tmp 5) rfl U.1.size rfl H (by first|exact f|assumption) ?_)
     |(go_at_call 198;refine (Qam H _).mono ?_;rw[J];rintro e w7 ⟨rfl,d⟩;have E:=D.below d (by omega);have p:=u.trans (d.mono u.size);have a2:=Qba f d R;have b7:=d.size;have Q:=hs.below p;obtain⟨z,P⟩:=cuts Q)
     |(go_at_call 211;refine (Qhd _ 5 (c-15) _ w7 z).mono ?_;rw[W];rintro e w8 ⟨rfl,rfl⟩)
     |(refine Lm rfl (.tmp 2) (.tmp 32) rfl w.1.size rfl Hd.zero _ rfl E (by omega) ?_;intro wz M I Tz)
     |fail)
    refine bodyPost_ret (Lu Tryz.results139 rfl (Qdp M)) rfl ?_;obtain⟨h1,h2,h3⟩:=Qje (l:=l) a1;rw[h1,h2,h3];exact⟨_,_,_,rfl,Qa9 _ _ _,p.trans (I _ (Nat.le_refl _))⟩
   ·have b4:okB l=true:=decide_eq_true ⟨X,b3,by rw[hH];exact J,W⟩;go_wp2_with (first
     |(go_at_call 210;refine (Qcl _ (c-4) _ _ V).mono ?_;rw[hH];rintro e U ⟨rfl,m⟩;have B:=Z.below m (by omega);have b6:=m.size)
     |(refine Lm rfl (.tmp 5) (.tmp 22) rfl U.1.size rfl H _ rfl (HB.zero U _) (by simp) ?_;intro w6 K G _;obtain⟨f,u,D,R⟩:=Qqz K G B (A.trans (m.mono A.size)) (by omega))
     |(refine Qe1 rfl (.tmp 5) rfl U.1.size rfl H (by first|exact f|assumption) ?_)
     |(go_at_call 198;refine (Qam H _).mono ?_;rw[J];rintro e w7 ⟨rfl,d⟩;have E:=D.below d (by omega);have p:=u.trans (d.mono u.size);have a2:=Qba f d R;have b7:=d.size;have Q:=hs.below p;obtain⟨z,P⟩:=cuts Q)
     |(go_at_call 211;refine (Qhd _ 5 (c-15) _ w7 z).mono ?_;rw[W];rintro e w8 ⟨rfl,rfl⟩)
     |(at_make;refine Qd1 _ T22 rfl _ _ rfl _ _ 236 rfl rfl (by omega) ?_;intro w9 b8 b2;have c6:=Sl.below P b2)
     |((with_reducible show wpList _ _ _ _ _ _);refine Qg3 T22 rfl (.tmp 34) (.tmp 36) rfl w7.1.size w7.1.size 236 _ b8 0 236 236 rfl _ 236 (c-20) _ rfl c6 (by omega) (by omega) ?_;intro d2 T b0;have q:=b2.trans b0;have a6:=E.below q (by omega);have c9:=Qba a2 q (by omega);have d0:=q.size)
     |(refine Lm rfl (.tmp 2) (.tmp 38) rfl w.1.size rfl H _ rfl a6 (by omega) ?_;intro wz M I Tz)
     |fail)
    refine bodyPost_ret (Lu Tryz.results139 rfl (Qdp M)) rfl ?_;obtain⟨h1,h2,h3⟩:=Qcc (l:=l) b4;rw[h1,h2,h3,hH];rw[Qst _ _ (by rw[Zdp,List.length_drop,X])] at T;exact⟨_,_,_,rfl,(T.turn λg hg hl=>Tz.block g hl (by show ¬g=w.1.size;omega)).less p.size,p.trans ((q.mono p.size).trans (I _ (Nat.le_refl _)))⟩
