/- Seal's fields, valid, packed, unpacked: the header's five numbers as a block holds them -/
import Derived.Test.YtnnbaihfboacoaaGreatDoorEu3
import Derived.Test.YtnnbaihfboacoaaGreatDoorEu4
import Derived.BigRegion
import Derived.StillTailTactics
import Derived.Deep.RegionHeld3
import Derived.Laws.CopyOwn
namespace Go.Proofs.YtnnbaihfboacoaaGreatDoor
open Go Go.RowKit Go.Proofs
set_option maxHeartbeats 2000000
set_option maxRecDepth 10000
structure Hd where
 kind:Int
 addr:Int
 count:Int
 level:Int
 gen:Int
def Hd.v (h:Hd):Value:=.agg #[.int .i64 h.kind,.int .i64 h.addr,.int .i64 h.count,.int .i64 h.level,.int .i64 h.gen]
def Hd.zero:Hd:=⟨0,0,0,0,0⟩
def Yp:Nat->Nat|0=>0|1=>3|2=>1|3=>2|_=>4
def Y6:Nat->Int|0=>1|1=>1|2=>2|3=>2|_=>5
def F9:Nat->Int|0=>1|_=>0
def He:Nat->Int|0=>6|1=>8|2=>2047|3=>65535|_=>1099511627775
def Hd.Ea (h:Hd):Nat->Int|0=>h.kind|1=>h.level|2=>h.addr|3=>h.count|_=>h.gen
def Hd.set (h:Hd)(k:Nat)(x:Int):Hd:=match k with
 |0=>{ h with kind:=x }
 |1=>{ h with level:=x }
 |2=>{ h with addr:=x }
 |3=>{ h with count:=x }
 |_=>{ h with gen:=x }
def fv (b k:Nat):Value:=.agg #[.pointer (some ⟨b,Yp k,none⟩),.int .i64 (Y6 k),.int .i64 (F9 k),.int .i64 (He k)]
def Di (b:Nat):List Value:=[.pointer (some ⟨b,0,none⟩),.int .i64 1,.int .i64 1,.int .i64 6,.pointer (some ⟨b,3,none⟩),.int .i64 1,.int .i64 0,.int .i64 8,
 .pointer (some ⟨b,1,none⟩),.int .i64 2,.int .i64 0,.int .i64 2047,.pointer (some ⟨b,2,none⟩),.int .i64 2,.int .i64 0,.int .i64 65535,.pointer (some ⟨b,4,none⟩),.int .i64 5,.int .i64 0,.int .i64 1099511627775]
def fvs (b:Nat):Value:=.agg (Di b).toArray
def HB (w:World)(b:Nat)(h:Hd):Prop:=∃t,w.1[b]?=some (.cells #[.int .i64 h.kind,.int .i64 h.addr,.int .i64 h.count,.int .i64 h.level,.int .i64 h.gen] t (0,0))
theorem qr8 (w:World)(b:Array Value)(t:TypeId):(w.alloc (.cells b t)).there w.1.size 0 b.size:=λj e=>by
 have d:(w.alloc (.cells b t)).1[w.1.size]?=some (.cells b t (0,0)):=heap_alloc_new w _;refine⟨?_,by unfold World.frozen?;rw[d];simp⟩;rw[cell_of_row _ _ _ _ _ _ d,Nat.zero_add,Array.getElem?_eq_getElem e];rfl
theorem q2r {d:Func}{p:Tmp}{ty:TypeId}{f:Addr}{v:Value}{P:Program}{w:World}{b:Array Value}(h:d.results=#[.cell p ty])(u:b.getD p undef=.pointer (some f))(m:(loadVar ty f).run P w=.ok v w) :
  (results d b).run P w=.ok v w:=by
 have e:(results d b).run P w=((asAddr (b.getD p undef)).run P w).andThen λa y=>(loadVar ty a).run P y:=by
  simp only[results,h];simp[Sem.run_bind,Result.andThen];try rfl
 rw[e,u];simp[asAddr,m]
theorem idx (b k:Nat)(d:k<5)(w:World):(Instr.index 232 (fvs b) (.int .i64 (k:Int))).run Tryz.prog w=.ok (fv b k) w:=by
 match k,d with
 |0,_=>show (Instr.index 232 (fvs b) (.int .i64 0)).run Tryz.prog w=_;kernel_rfl
 |1,_=>show (Instr.index 232 (fvs b) (.int .i64 1)).run Tryz.prog w=_;kernel_rfl
 |2,_=>show (Instr.index 232 (fvs b) (.int .i64 2)).run Tryz.prog w=_;kernel_rfl
 |3,_=>show (Instr.index 232 (fvs b) (.int .i64 3)).run Tryz.prog w=_;kernel_rfl
 |4,_=>show (Instr.index 232 (fvs b) (.int .i64 4)).run Tryz.prog w=_;kernel_rfl
theorem q86 (b:Nat)(w:World) :
  Calls Tryz.prog 156 #[.pointer (some ⟨b,0,none⟩)] w λe A=>e=.returned (fvs b)/\Below w.1.size w A:=by
 go_enter Tryz.func156,Tryz.ntmps156
 go_wp2;generalize f:w.alloc _=d;go_still_tail 21,(by kernel_rfl)
 change wpList _ _ _ _ _ d.drew;have m:Below w.1.size w d:=by rw[<-f];exact Qm
 have y:d.drew.there w.1.size 0 20:=by
  show d.there w.1.size 0 20;rw[<-f];exact qr8 w _ _
 clear f;refine wpList_store_mid rfl _ _ _ rfl w.1.size 0 (Di b).toArray rfl rfl y (by kernel_rfl) (by simp[Di,Value.oneCell']) ?_;have u:(d.drew.setCells w.1.size 0 (Di b)).rangeAt w.1.size 0 (Di b):=World.rangeAt_setCells_same _ _ _ _ y;have p:Below w.1.size w (d.drew.setCells w.1.size 0 (Di b)):=m.drew.trans ((Us (S:=λk=>k=w.1.size) rfl (Di b) 0 d.drew).below (λx D=>by omega) (m.size));change wpList _ _ _ _ _ (d.drew.setCells w.1.size 0 (Di b));generalize d.drew.setCells w.1.size 0 (Di b)=B at u p ⊢;go_wp2;refine bodyPost_ret (v:=fvs b) ?_ rfl ⟨rfl,p⟩;exact q2r Tryz.results156 rfl (run_loadVar_mid B w.1.size 0 232 (Di b) _ u Tryz.underlying232 rfl (by kernel_rfl))
theorem HB.at_ {w:World}{bp:Nat}{h:Hd}(H:HB w bp h)(k:Nat):w.cell? ⟨bp,Yp k,none⟩=some (.int .i64 (h.Ea k)):=by
 obtain⟨t,H⟩:=H;rw[cell_of_row _ _ _ _ _ _ H];match k with
 |0=>rfl
 |1=>rfl
 |2=>rfl
 |3=>rfl
 |_+4=>rfl
theorem HB.below {w w':World}{bp:Nat}{h:Hd}(H:HB w bp h){B:Nat}(hb:Below B w w')(hB:bp<B):HB w' bp h:=by
 obtain⟨t,H⟩:=H;exact⟨t,(hb.block bp hB).trans H⟩
theorem Qbh (b k:Nat)(d:k<5)(w:World):(Instr.index 232 (fvs b) (.int .i64 (k:Int))).run Tryz.prog w=.ok (.agg #[.pointer (some ⟨b,Yp k,none⟩),.int .i64 (Y6 k),.int .i64 (F9 k),.int .i64 (He k)]) w:=idx b k d w
def Hd.in_ (h:Hd)(k:Nat):Prop:=F9 k<=h.Ea k/\h.Ea k<=He k
def Hd.ok (h:Hd):Bool:=decide ((1<=h.kind/\h.kind<=6)/\(0<=h.level/\h.level<=8)/\(0<=h.addr/\h.addr<=2047)/\(0<=h.count/\h.count<=65535)/\0<=h.gen/\h.gen<=1099511627775)
theorem Hd.Qcc (h:Hd)(H:∀j<5,h.in_ j):h.ok=true:=by
 have h0:=H 0 (by omega);have h1:=H 1 (by omega);have h2:=H 2 (by omega);have b:=H 3 (by omega);have d:=H 4 (by omega);exact decide_eq_true ⟨h0,h1,h2,b,d⟩
theorem Hd.Qa0 (h:Hd)(H:h.ok=true)(j:Nat)(hj:j<5):h.in_ j:=by
 obtain⟨h0,h1,h2,b,d⟩:=of_decide_eq_true H;match j,hj with
 |0,_=>exact h0
 |1,_=>exact h1
 |2,_=>exact h2
 |3,_=>exact b
 |4,_=>exact d
theorem q3u (h:Hd)(w:World) :
  Calls Tryz.prog 123 #[.agg #[.int .i64 h.kind,.int .i64 h.addr,.int .i64 h.count,.int .i64 h.level,.int .i64 h.gen]] w λe w'=>e=.returned (.bool h.ok)/\Below w.1.size w w':=by
 go_enter Tryz.func123,Tryz.ntmps123
 go_wp2_with (go_at_call 156;refine (q86 w.1.size _).mono ?_;rintro e Q ⟨rfl,p⟩)
 have T:HB Q w.1.size h:=HB.below ⟨_,heap_alloc_new w _⟩ p (by simp);have E:Below w.1.size w Q:=(Qm).trans (p.mono (by simp));have O:=p.size;rw[World.size_alloc] at O;go_loopw [6] (λi wr=>∃k:Nat,k<=5/\i=.int .i64 (k:Int)/\(∀j<k,h.in_ j)/\HB wr w.1.size h/\Below w.1.size w wr/\w.1.size<wr.1.size) (λi _=>5-(intOf i).toNat)
 case atStart=>exact⟨0,by omega,rfl,λj U=>by omega,T,E,by omega⟩
 case round=>
  obtain⟨k,hk,rfl,A,H,B,u⟩:=hrel;by_cases D:k<5
  ·have I:=Qbh w.1.size k D;have F:=H.at_ k;have W:(0:Int)<=(k:Int):=by omega
   have G:∀o:Obj,(wr.alloc o).cell? ⟨w.1.size,Yp k,none⟩=some (.int .i64 (h.Ea k)):=λo=>((Below.refl _ _).alloc (Nat.le_refl _) o).cell u |>.trans F
   go_wp2;generalize f:wr.alloc _=b;have d:Below wr.1.size wr b:=by rw[<-f];exact Qm
   have hn:b.1[wr.1.size]?=some (.cells #[.pointer (some ⟨w.1.size,Yp k,none⟩),.int .i64 (Y6 k),.int .i64 (F9 k),.int .i64 (He k)] 231 (0,0)):=by rw[<-f];exact heap_alloc_new wr _
   have Y:b.1.size=wr.1.size+1:=by rw[<-f];simp
   clear f I;have q0:b.cell? ⟨wr.1.size,0,none⟩=some (.pointer (some ⟨w.1.size,Yp k,none⟩)):=by rw[cell_of_row _ _ _ _ _ _ hn];rfl
   have q2:b.cell? ⟨wr.1.size,2,none⟩=some (.int .i64 (F9 k)):=by rw[cell_of_row _ _ _ _ _ _ hn];rfl
   have q3:b.cell? ⟨wr.1.size,3,none⟩=some (.int .i64 (He k)):=by rw[cell_of_row _ _ _ _ _ _ hn];rfl
   have qc:b.cell? ⟨w.1.size,Yp k,none⟩=some (.int .i64 (h.Ea k)):=(d.cell u).trans F;have R:=H.below d u;have m:=B.trans (d.mono B.size);clear B H F G hn d;generalize Z:h.Ea k=x at *;generalize X:F9 k=lo at *;generalize hm:He k=P at *;by_cases h1:x<lo
   ·have y:h.ok=false:=by
     cases M:h.ok
     ·rfl
     ·have:=(h.Qa0 M k D).1;omega
    go_quiet (fail)
    go_wp2;go_ret;exact⟨by first|rfl|(rw[y];rfl),q1g m _⟩
   ·have g1:decide (x<lo)=false:=decide_eq_false h1;by_cases h2:P<x
    ·have y:h.ok=false:=by
      cases M:h.ok
      ·rfl
      ·have:=(h.Qa0 M k D).2;omega
     go_quiet (fail)
     go_wp2;go_ret;exact⟨by first|rfl|(rw[y];rfl),q1g m _⟩
    ·have g2:decide (P<x)=false:=decide_eq_false h2;go_quiet (fail)
     go_wp2;refine⟨⟨k+1,by omega,rfl,λj U=>?_,R.below (q1g (Below.refl b.1.size b) _) (by omega),q1g m _,by show w.1.size<b.1.size;omega⟩,by simp[intOf];omega⟩;by_cases J:j=k
     ·rw[J];unfold Hd.in_;rw[Z,X,hm];omega
     ·exact A j (by omega)
  ·have K:k=5:=by omega
   go_wp2;go_ret;exact⟨by rw[h.Qcc (by rw[<-K];exact A)];rfl,B⟩
def hdB (h:Hd):List UInt8:=Zc h.kind 1++(Zc h.level 1++(Zc h.addr 2++(Zc h.count 2++Zc h.gen 5)))
def Gm (h:Hd):Nat->List UInt8
 |0=>[]
 |k+1=>Gm h k++Zc (h.Ea k) (Y6 k).toNat
theorem qud (h:Hd)(k:Nat)(b:k<=5):(Gm h k).length<=11:=by
 match k,b with
 |0,_=>simp[Gm]
 |1,_=>simp[Gm,Yl,Y6]
 |2,_=>simp[Gm,Yl,Y6]
 |3,_=>simp[Gm,Yl,Y6]
 |4,_=>simp[Gm,Yl,Y6]
 |5,_=>simp[Gm,Yl,Y6]
theorem que (h:Hd):Gm h 5=hdB h:=by simp[Gm,hdB,Hd.Ea,Y6]
theorem qr9 (k:Nat):1<=Y6 k/\Y6 k<=5:=by
 match k with
 |0=>decide
 |1=>decide
 |2=>decide
 |3=>decide
 |_+4=>exact⟨by show (1:Int)<=5;omega,by show (5:Int)<=5;omega⟩
theorem qmz (h:Hd)(w:World) :
  Calls Tryz.prog 124 #[.agg #[.int .i64 h.kind,.int .i64 h.addr,.int .i64 h.count,.int .i64 h.level,.int .i64 h.gen]] w λe R=>∃A n c,e=.returned (.slice A n c)/\Sl R A n c (hdB h)/\Below w.1.size w R:=by
 go_enter Tryz.func124,Tryz.ntmps124
 go_wp2_with (go_at_call 156;refine (q86 w.1.size _).mono ?_;rintro e T ⟨rfl,u⟩)
 have X:HB T w.1.size h:=HB.below ⟨_,heap_alloc_new w _⟩ u (by simp);have F:Below w.1.size w T:=(Qm).trans (u.mono (by simp));have O:=u.size;rw[World.size_alloc] at O;go_loopw [3,7] (λs i wr=>∃(k:Nat) (A:Option Addr) (n c:Nat),k<=5/\s=.slice A n c/\i=.int .i64 (k:Int)/\Sl wr A n c (Gm h k)/\HB wr w.1.size h/\Below w.1.size w wr/\w.1.size<wr.1.size) (λ_ i _=>5-(intOf i).toNat)
 case atStart=>exact⟨0,none,0,0,by omega,rfl,rfl,q24 _,X,F,by omega⟩
 case round=>
  obtain⟨k,A,n,c,hk,rfl,rfl,D,H,E,B⟩:=hrel;by_cases Y:k<5
  ·have I:=Qbh w.1.size k Y;have P:=H.at_ k;have a1:(0:Int)<=(k:Int):=by omega
   go_wp2;generalize m:wr.alloc _=p;have b:Below wr.1.size wr p:=by rw[<-m];exact Qm
   have hn:p.1[wr.1.size]?=some (.cells #[.pointer (some ⟨w.1.size,Yp k,none⟩),.int .i64 (Y6 k),.int .i64 (F9 k),.int .i64 (He k)] 231 (0,0)):=by rw[<-m];exact heap_alloc_new wr _
   have a6:p.1.size=wr.1.size+1:=by rw[<-m];simp
   clear m I;have q0:p.cell? ⟨wr.1.size,0,none⟩=some (.pointer (some ⟨w.1.size,Yp k,none⟩)):=by rw[cell_of_row _ _ _ _ _ _ hn];rfl
   have q1:p.cell? ⟨wr.1.size,1,none⟩=some (.int .i64 (Y6 k)):=by rw[cell_of_row _ _ _ _ _ _ hn];rfl
   have qc:p.cell? ⟨w.1.size,Yp k,none⟩=some (.int .i64 (h.Ea k)):=(b.cell B).trans P;have W:=H.below b B;have M:=D.below b;have y:=E.trans (b.mono E.size);have Q:=D.len;have a2:=qud h k hk;have Z:=qr9 k;have K:Ce (Gm h k) (h.Ea k) (Y6 k)=Gm h (k+1):=by unfold Ce;rw[if_pos (by omega)];rfl
   clear E H P hn b D;go_still_tail 7,(by kernel_rfl)
   change wpList _ _ _ _ _ p.drew;go_wp2_with (go_at_call 126;refine (q9l A n c (Gm h k) (h.Ea k) (Y6 k) _ M.drew (by omega)).mono ?_;rintro e w3 ⟨U,n3,c3,rfl,f,G⟩)
   rw[K] at f;have d:Below p.1.size p w3:=(Below.refl _ _).drew.trans G;exact⟨⟨k+1,U,n3,c3,by omega,rfl,rfl,f.sl,W.below d (by omega),y.trans (d.mono y.size),by have:=d.size;omega⟩,by simp[intOf];omega⟩
  ·have J:k=5:=by omega
   go_wp2;go_ret;rw[J,que] at D;exact⟨A,n,c,rfl,D,E⟩
def Ur:Nat->Nat|0=>0|1=>1|2=>2|3=>4|4=>6|_=>11
def rdF (l:List UInt8)(k:Nat):Nat:=Q8 ((l.drop (Ur k)).take (Y6 k).toNat)
def Qbk (l:List UInt8):Nat->Hd
 |0=>Hd.zero
 |k+1=>(Qbk l k).set k (rdF l k)
def G6 (l:List UInt8):Hd:=⟨Q8 (l.take 1),Q8 ((l.drop 2).take 2),Q8 ((l.drop 4).take 2),Q8 ((l.drop 1).take 1),Q8 ((l.drop 6).take 5)⟩
theorem quf (l:List UInt8):Qbk l 5=G6 l:=rfl
theorem qra (k:Nat)(b:k<5):Ur (k+1)=Ur k+(Y6 k).toNat:=by
 match k,b with
 |0,_=>rfl
 |1,_=>rfl
 |2,_=>rfl
 |3,_=>rfl
 |4,_=>rfl
theorem qwx (k:Nat)(b:k<=5):Ur k<=11:=by
 match k,b with
 |0,_=>decide
 |1,_=>decide
 |2,_=>decide
 |3,_=>decide
 |4,_=>decide
 |5,_=>decide
theorem HB.Vr {w:World}{bp:Nat}{h:Hd}(H:HB w bp h)(k:Nat)(x:Int):HB (w.setCell ⟨bp,Yp k,none⟩ (.int .i64 x)) bp (h.set k x):=by
 obtain⟨t,H⟩:=H;refine⟨t,(heap_setCell_same w bp (Yp k) _ t (.int .i64 x) H).trans ?_⟩;match k with
 |0=>rfl
 |1=>rfl
 |2=>rfl
 |3=>rfl
 |_+4=>rfl
theorem HB.fz {w:World}{bp:Nat}{h:Hd}(H:HB w bp h)(k:Nat):w.frozen? ⟨bp,Yp k,none⟩=false:=by
 obtain⟨t,H⟩:=H;unfold World.frozen?;rw[H];simp
theorem HB.zero (w:World)(t:TypeId):HB (w.alloc (.cells #[.int .i64 0,.int .i64 0,.int .i64 0,.int .i64 0,.int .i64 0] t)) w.1.size Hd.zero:=⟨t,heap_alloc_new w _⟩
theorem Own.turn {w w':World}{base n c:Nat}{e:TypeId}{A:Option Addr}{l:List UInt8}(h:Own w base e A n c l)(hk:∀g,base<=g->g<w.1.size->w'.1[g]?=w.1[g]?):Own w' base e A n c l:=by
 refine⟨h.1,?_⟩;rcases h.2 with d|⟨g,cap,b,d,h1,f,r⟩
 ·exact .inl d
 ·exact .inr ⟨g,cap,b,d,h1,(hk g h1 (Array.getElem?_eq_some_iff.1 f).1).trans f,r⟩
def Hd.vs (h:Hd):List Value:=[.int .i64 h.kind,.int .i64 h.addr,.int .i64 h.count,.int .i64 h.level,.int .i64 h.gen]
theorem HB.range {w:World}{bp:Nat}{h:Hd}(H:HB w bp h):w.rangeAt bp 0 h.vs:=λj v b=>by
 obtain⟨t,H⟩:=H;rw[cell_of_row _ _ _ _ _ _ H,Nat.zero_add];simpa [Hd.vs] using b
theorem HB.there {w:World}{bp:Nat}{h:Hd}(H:HB w bp h):w.there bp 0 5:=λj b=>by
 obtain⟨t,H⟩:=H;refine⟨?_,by unfold World.frozen?;rw[H];simp⟩;rw[cell_of_row _ _ _ _ _ _ H,Nat.zero_add,Array.getElem?_eq_getElem (by simpa using b)];rfl
theorem q5t {ops:Array Oper}{d:List Oper}{o:Oper}{a:Act}{w:World}{Q:Exit->Act->World->Prop}(m:o.guard=none)(x:Operand)(e:o.op=Op.load 150 x)
  (b:Nat) (p:a.eval x=.pointer (some ⟨b,0,none⟩)) (h:Hd) (H:HB w b h) (f:wpList Tryz.prog ops Q d (a.put o.dst h.v) w):wpList Tryz.prog ops Q (o::d) a w:=
 wpList_load_mid m _ x e b 0 p h.vs _ H.range Tryz.underlying150 rfl (by kernel_rfl) f
theorem Pz {ops:Array Oper}{d:List Oper}{o:Oper}{a:Act}{w:World}{Q:Exit->Act->World->Prop}(u:o.guard=none)(x y:Operand)(f:o.op=Op.store 150 x y)
  (b:Nat) (m:a.eval x=.pointer (some ⟨b,0,none⟩)) (h h0:Hd) (A:a.eval y=h.v) (H:HB w b h0) (E:b<w.1.size)
  (p:∀e,e.rangeAt b 0 h.vs->(∀B,B<=b->Below B w e)->Turn (λk=>k=b) w e->wpList Tryz.prog ops Q d (a.put o.dst undef) e):wpList Tryz.prog ops Q (o::d) a w:=
 wpList_store_mid u _ x y f b 0 h.vs.toArray m A H.there (by kernel_rfl) (by simp[Hd.vs,Value.oneCell'])
  (p _ (World.rangeAt_setCells_same _ _ _ _ H.there) (λB D=>(Us (S:=λk=>k=b) rfl h.vs 0 w).below (λx m=>by omega) (by omega)) (Us (S:=λk=>k=b) rfl h.vs 0 w))
theorem q54 (A:Option Addr)(c:Nat)(l:List UInt8)(w:World)(hs:Sl w A 11 c l) :
  Calls Tryz.prog 133 #[.slice A 11 c] w λe d=>e=.returned (G6 l).v/\Below w.1.size w d:=by
 go_enter Tryz.func133,Tryz.ntmps133
 go_wp2_with (go_at_call 156;refine (q86 (w.1.size+1) _).mono ?_;rintro e w2 ⟨rfl,f⟩)
 have a6:=f.size;simp only[World.size_alloc] at a6 f;have F:Below w.1.size w w2:=(((Below.refl _ w).alloc (Nat.le_refl _) _).alloc (by simp) _).trans (f.mono (by omega));have hR:HB w2 w.1.size Hd.zero:=((HB.zero w _).below (Qm) (by simp)).below f (by omega);have hH:HB w2 (w.1.size+1) Hd.zero:=by
  have:=HB.zero (w.alloc (.cells #[.int .i64 0,.int .i64 0,.int .i64 0,.int .i64 0,.int .i64 0] 150)) 150;rw[World.size_alloc] at this;exact this.below f (by omega)
 clear f;have hl:=hs.len;go_loopw [0,7] (λs i wr=>∃(k:Nat) (A:Option Addr) (c:Nat),k<=5/\s=.slice A (11-Ur k) c/\i=.int .i64 (k:Int)/\Sl wr A (11-Ur k) c (l.drop (Ur k))/\HB wr w.1.size Hd.zero/\HB wr (w.1.size+1) (Qbk l k)/\Below w.1.size w wr/\w.1.size+2<=wr.1.size) (λ_ i _=>5-(intOf i).toNat)
 case atStart=>exact⟨0,A,c,by omega,rfl,rfl,by simpa [Ur] using hs.below F,hR,hH,F,by omega⟩
 case round=>
  obtain⟨k,A1,c1,hk,rfl,rfl,J,D,H,M,b0⟩:=hrel;by_cases h5:k<5
  ·have W:=Qbh (w.1.size+1) k h5;have a8:(0:Int)<=(k:Int):=by omega
   go_wp2;generalize B:wr.alloc _=b;have u:Below wr.1.size wr b:=by rw[<-B];exact Qm
   have hn:b.1[wr.1.size]?=some (.cells #[.pointer (some ⟨w.1.size+1,Yp k,none⟩),.int .i64 (Y6 k),.int .i64 (F9 k),.int .i64 (He k)] 231 (0,0)):=by rw[<-B];exact heap_alloc_new wr _
   have b2:b.1.size=wr.1.size+1:=by rw[<-B];simp
   clear B W;have q0:b.cell? ⟨wr.1.size,0,none⟩=some (.pointer (some ⟨w.1.size+1,Yp k,none⟩)):=by rw[cell_of_row _ _ _ _ _ _ hn];rfl
   have q1:b.cell? ⟨wr.1.size,1,none⟩=some (.int .i64 (Y6 k)):=by rw[cell_of_row _ _ _ _ _ _ hn];rfl
   have H1:=H.below u (by omega);have P:=D.below u (by omega);have a2:=J.below u;have E:=M.trans (u.mono M.size);have Z:=qra k h5;have b1:=qwx (k+1) (by omega);have a7:=qr9 k;have U:(l.drop (Ur k)).drop (Y6 k).toNat=l.drop (Ur (k+1)):=by rw[List.drop_drop,Z]
   have a1:(Q8 ((l.drop (Ur k)).take (Y6 k).toNat):Int)=(rdF l k:Int):=rfl;clear M H hn u J D;have HT:=λ(d:World) (h':Sl d A1 (11-Ur k) c1 (l.drop (Ur k)))=>q6w A1 (11-Ur k) c1 (l.drop (Ur k)) (Y6 k) d h' (by omega) (by omega) (by omega) (by omega)
   rw[U,a1] at HT;have Q:∀d:World,Turn (λk=>k=w.1.size+1) b d->d.cell? ⟨wr.1.size,0,none⟩=some (.pointer (some ⟨w.1.size+1,Yp k,none⟩))/\d.cell? ⟨wr.1.size,1,none⟩=some (.int .i64 (Y6 k))/\Turn (λk=>k=w.1.size+1) b d:=λd T=>⟨(World.cell?_of_block (T.block wr.1.size (by omega) (by show ¬(wr.1.size=w.1.size+1);omega))).trans q0,(World.cell?_of_block (T.block wr.1.size (by omega) (by show ¬(wr.1.size=w.1.size+1);omega))).trans q1,T⟩
   have TD:Turn (λk=>k=w.1.size+1) b b.drew:=Qv (Below.refl _ _).drew;go_region_held3 (λd=>d.cell? ⟨wr.1.size,0,none⟩=some (.pointer (some ⟨w.1.size+1,Yp k,none⟩))/\d.cell? ⟨wr.1.size,1,none⟩=some (.int .i64 (Y6 k))/\Turn (λk=>k=w.1.size+1) b d)
    (first|assumption|exact Q _ TD|(go_split_ands;exact Q _ (Turn.then ‹Turn (λk=>k=w.1.size+1) b _› (Qv ‹Below (World.heap _).size _ _›)))|(go_split_ands;exact Q _ (Turn.then ‹Turn (λk=>k=w.1.size+1) b _› (Ez _ rfl))))
    (first
     |(go_at_call 149;refine (HT _ a2.drew).mono ?_;rintro e K ⟨A3,n3,c3,rfl,y,R⟩;have m:Below b.1.size b K:=(Below.refl _ b).drew.trans R;have O:=H1.below m (by omega);have q5:=O.at_ k;have q6:=O.fz k)
     |fail)
   have Y:n3=11-Ur (k+1):=by have:=y.len;rw[List.length_drop,hl] at this;omega
   subst Y;go_wp2;have G:Below (w.1.size+1) K (K.setCell ⟨w.1.size+1,Yp k,none⟩ (.int .i64 (rdF l k:Int))):=(Below.refl _ K).setCell (p:=⟨w.1.size+1,Yp k,none⟩) (Nat.le_refl _) _;have b3:=m.size;refine⟨⟨k+1,A3,c3,by omega,rfl,rfl,?_,(P.below m (by omega)).below G (by omega),O.Vr k _,(E.trans (m.mono E.size)).trans (G.mono (by omega)),by show w.1.size+2<=(K.setCell _ _).1.size;rw[World.size_setCell];omega⟩,by simp[intOf];omega⟩;exact (y.turn λg hg _=>Below.heap_setCell _ _ _ _ (by show g≠w.1.size+1;have h1:b.drew.1.size=b.1.size:=rfl;omega)).sl
  ·have X:k=5:=by omega
   go_wp2_with (first
    |(refine q5t rfl _ rfl _ rfl _ H ?_)
    |(refine Pz rfl _ _ rfl _ rfl _ _ rfl D (by omega) ?_;intro w4 I m _))
   refine bodyPost_ret (v:=(G6 l).v) ?_ rfl ⟨rfl,?_⟩
   ·rw[X,quf] at I;exact q2r Tryz.results133 rfl (run_loadVar_mid _ w.1.size 0 150 _ _ I Tryz.underlying150 rfl (by kernel_rfl))
   ·exact M.trans (m _ (Nat.le_refl _))
theorem qd6 {α β:Type}(f:α->β)(L:List α)(o:Nat)(b:List α):splice (L.map f) o (b.map f)=(splice L o b).map f:=by simp[splice]
theorem Own.whole {w:World}{base n g:Nat}{e:TypeId}{l:List UInt8}(h:Own w base e (some ⟨g,0,none⟩) n n l):base<=g/\w.1[g]?=some (.cells (l.map bv).toArray e (0,0))/\n<=maxLen:=by
 rcases h.2 with⟨d,_⟩|⟨D,cap,f,d,y,A,h1,h2,p,u⟩
 ·injection d with b;cases b
 ·injection d with b B m;injection b with b;injection b with b;subst b;subst m;refine⟨y,?_,h2⟩;rw[<-u,List.take_of_length_le (by simp[p])];exact A
theorem Own.of_whole {w:World}{base n g:Nat}{e:TypeId}{l:List UInt8}(hb:base<=g)(hg:w.1[g]?=some (.cells (l.map bv).toArray e (0,0)))(hl:l.length=n)(hm:n<=maxLen):Own w base e (some ⟨g,0,none⟩) n n l:=
 ⟨by simpa using hl,.inr ⟨g,n,_,rfl,hb,hg,Nat.le_refl _,hm,by simpa using hl,by rw[List.take_of_length_le (by simp[hl])]⟩⟩
theorem qb6 {P:Program}{t e:TypeId}(T:Y0 P t e){w:World}{ops:Array Oper}{u:List Oper}{o:Oper}{a:Act}{Q:Exit->Act->World->Prop}(G:o.guard=none)(d s:Operand)
  (ho:o.op=.call { callee:=.builtin .copy,args:=#[d,s],argTypes:=#[t,t] })
  (base g n:Nat) (l:List UInt8) (p:Own w base e (some ⟨g,0,none⟩) n n l) (off f y:Nat) (hd:a.eval d=.slice (some ⟨g,off,none⟩) f y)
  (B:Option Addr) (m c:Nat) (K:List UInt8) (hs:a.eval s=.slice B m c) (I:Sl w B m c K) (H:m<=f) (O:off+m<=n)
  (W:∀D,Own D base e (some ⟨g,0,none⟩) n n (splice l off K)->Below base w D->wpList P ops Q u (a.put o.dst (goInt m)) D):wpList P ops Q (o::u) a w:=by
 obtain⟨i,Z,a1,J,a2⟩:=info_parts T.info;obtain⟨M,Y,hm⟩:=p.whole;have hl:=p.len;have A:=I.len;refine wpList_copy_splice G d s t t ho e T.sl (by rw[Z];simp[J]) _ _ _ _ _ _ hd hs g off (l.map bv) e Y (K.map bv) (by rw[List.length_map,A];exact (Nat.min_eq_left H).symm) (λh0=>?_) (by simp;omega) (qf0 _) base w (Below.refl _ _) M ?_
 ·rw[List.length_map] at h0;obtain⟨R,rfl,_⟩:=I.cell (k:=0) (by omega);refine⟨rfl,R,rfl,λj v hv=>?_⟩;obtain⟨U,E,_,X⟩:=I.2.2.2 j v hv;injection E with E;subst E;exact X
 ·intro D b F;have b:=b.out;rw[qd6] at b;have:=W D (Own.of_whole M b (by rw[length_splice _ _ _ (by omega),hl]) hm) F;rw[List.length_map,A];exact this
theorem qij {P:Program}{t e:TypeId}(T:Y0 P t e){w:World}{ops:Array Oper}{o:Oper}{a:Act}{K:Act->World->Prop}{Q:Exit->Act->World->Prop}{E:Prop}(G:o.guard=none)(d s:Operand)
  (ho:o.op=.call { callee:=.builtin .copy,args:=#[d,s],argTypes:=#[t,t] })
  (base g n:Nat) (l:List UInt8) (p:Own w base e (some ⟨g,0,none⟩) n n l) (off f u:Nat) (hd:a.eval d=.slice (some ⟨g,off,none⟩) f u)
  (B:Option Addr) (m c:Nat) (M:List UInt8) (hs:a.eval s=.slice B m c) (I:Sl w B m c M) (H:m<=f) (O:off+m<=n)
  (W:∀A,Own A base e (some ⟨g,0,none⟩) n n (splice l off M)->Below g w A->K (a.put o.dst (goInt m)) A):if Region.wanted o (yielded ops a.tmps)=true then Oper.wp P o a w K Q else E:=by
 obtain⟨i,hi,a1,J,a2⟩:=info_parts T.info;obtain⟨X,Z,hm⟩:=p.whole;have hl:=p.len;have y:=I.len;refine step_copy_splice G d s t t ho e T.sl (by rw[hi];simp[J]) _ _ _ _ _ _ hd hs g off (l.map bv) e Z (M.map bv) (by rw[List.length_map,y];exact (Nat.min_eq_left H).symm) (λh0=>?_) (by simp;omega) (qf0 _) g w (Below.refl _ _) (Nat.le_refl _) ?_
 ·rw[List.length_map] at h0;obtain⟨R,rfl,_⟩:=I.cell (k:=0) (by omega);refine⟨rfl,R,rfl,λj v hv=>?_⟩;obtain⟨U,D,_,Y⟩:=I.2.2.2 j v hv;injection D with D;subst D;exact Y
 ·intro A b F;have b:=b.out;rw[qd6] at b;have:=W A (Own.of_whole X b (by rw[length_splice _ _ _ (by omega),hl]) hm) F;rw[List.length_map,y];exact this
def Ut (l:List UInt8):List UInt8:=Zc (more 0 (l.drop 4):Nat) 4
theorem q87 (A:Option Addr)(n c:Nat)(l:List UInt8)(w:World)(u:Sl w A n c l)(hn:5<=n)(H:Tab w) :
  Calls Tryz.prog 125 #[.slice A n c] w λe G=>∃y F B,e=.returned (.slice y F B)/\Own G w.1.size 5 y F B (Ut l)/\Below w.1.size w G:=by
 have K:=u.cap;have hm:=u.max;unfold maxLen at hm;have D:=u.drop (k:=4) (by omega);have m:¬c=4:=by omega
 rw[if_neg m] at D;have p:=qvn 0 (l.drop 4);generalize E:more 0 (l.drop 4)=s at p;have d:Ce [] (s:Int) 4=Ut l:=by unfold Ce Ut;rw[E];simp
 go_enter Tryz.func125,Tryz.ntmps125
 go_wp2_with (first
  |(go_at_call 157;refine (qvp _ (n-4) (c-4) (l.drop 4) _ D H).mono ?_;rw[E];rintro e I ⟨rfl,rfl⟩)
  |(go_at_call 126;refine (q9l none 0 0 [] (s:Int) 4 _ (q24 _) (by omega)).mono ?_;rw[d];rintro e I ⟨J,M,c3,rfl,b,f⟩))
 go_ret;exact⟨_,_,_,rfl,b,f⟩
def Y3 (l:List UInt8):Bool:=l.all (·==0)
theorem qb7 (A:Option Addr)(n c:Nat)(l:List UInt8)(w:World)(d:Sl w A n c l) :
  Calls Tryz.prog 134 #[.slice A n c] w λe I=>e=.returned (.bool (Y3 l))/\w=I:=by
 have M:=d.cap;have hm:=d.max;have D:=d.len;unfold maxLen at hm;go_enter Tryz.func134,Tryz.ntmps134
 go_wp2;go_loop [7] (λi=>∃k:Nat,k<=n/\i=.int .i64 (k:Int)/\∀j<k,Wh l j=0) (λi=>n-(intOf i).toNat)
 case atStart=>exact⟨0,Nat.zero_le _,rfl,λj p=>by omega⟩
 case round=>
  obtain⟨k,O,rfl,b⟩:=hrel;by_cases y:k<n
  ·obtain⟨J,rfl,K,m⟩:=d.cell y;have E:=q9i l k;by_cases h0:Wh l k=0
   ·have f:(Wh l k:Int)=0:=by omega
    go_wp2;exact⟨⟨k+1,by omega,by go_num,λj p=>by by_cases u:j=k;(rw[u];exact h0);exact b j (by omega)⟩,by simp[intOf];omega⟩
   ·have f:¬(Wh l k:Int)=0:=by omega
    have B:Y3 l=false:=by
     cases G:Y3 l
     ·rfl
     ·have:=List.all_eq_true.1 G (l.getD k 0) (by rw[List.getD_eq_getElem?_getD,List.getElem?_eq_getElem (by omega)];simp);simp at this;unfold Wh at h0;rw[List.getD_eq_getElem?_getD,this] at h0;exact absurd rfl h0
    go_wp2;go_ret;exact⟨by first|rfl|(rw[B];rfl),rfl⟩
  ·have F:k=n:=by omega
   have B:Y3 l=true:=by
    refine List.all_eq_true.2 λx H=>?_
    obtain⟨j,p,rfl⟩:=List.getElem_of_mem H;have:=b j (by omega);unfold Wh at this;rw[List.getD_eq_getElem?_getD,List.getElem?_eq_getElem p] at this;simpa using UInt8.toNat_inj.1 this
   go_wp2;go_ret;exact⟨by first|rfl|(rw[B];rfl),rfl⟩
def Yn (h:Hd)(l:List UInt8):List UInt8:=hdB h++(List.replicate 5 0++(l++List.replicate (236-l.length) 0))
def Zr (h:Hd)(l:List UInt8):List UInt8:=Zc (more 0 (Yn h l):Nat) 4++Yn h l
def Xi (h:Hd)(l:List UInt8):Int:=if h.ok=true then if l.length<=236 then 0 else 7 else 1
def Xo (h:Hd)(l:List UInt8):List UInt8:=if h.ok=true then if l.length<=236 then Zr h l else [] else []
theorem q6c (h:Hd):(hdB h).length=11:=by simp[hdB,Yl]
theorem qrb (h:Hd)(l:List UInt8)(b:l.length<=236):(Yn h l).length=252:=by simp[Yn,q6c];omega
theorem q76 (h:Hd)(l:List UInt8)(b:l.length<=236):(Zr h l).length=256:=by simp[Zr,qrb h l b,Yl]
def zrs (n:Nat):List UInt8:=List.replicate n 0
theorem q77 {P:Program}{t e:TypeId}(w:World)(T:Y0 P t e){ops:Array Oper}{b:List Oper}{o:Oper}{a:Act}{Q:Exit->Act->World->Prop}
  (A:o.guard=none) (l c:Operand) (d:o.op=Op.makeSlice t l c) (m kc:IntKind) (n:Nat) (B:a.eval l=.int m (n:Int)) (y:a.eval c=.int kc (n:Int)) (p:n<=281474976710656)
  (u:∀f,Own f w.1.size e (some ⟨w.1.size,0,none⟩) n n (zrs n)->Below w.1.size w f->wpList P ops Q b (a.put o.dst (.slice (some ⟨w.1.size,0,none⟩) n n)) f) :
  wpList P ops Q (o::b) a w:=qf1 w T A l c d m kc n B y p u
theorem qd7 {α:Type}(X Y Z C:List α)(k:Nat)(b:X.length=k)(h:Y.length=C.length):splice (X++(Y++Z)) k C=X++(C++Z):=by
 subst b;unfold splice;have e:(X++(Y++Z)).drop (X.length+Y.length)=Z:=by rw[<-List.append_assoc];exact List.drop_left' (by simp)
 rw[List.take_left' rfl,<-h,e]
theorem Qb6 (h:Hd)(l:List UInt8)(f:l.length<=236):splice (splice (zrs 256) 4 (hdB h)) 20 l=List.replicate 4 0++Yn h l:=by
 have e:(zrs 256)=List.replicate 4 0++(List.replicate 11 0++List.replicate 241 0):=by
  unfold zrs;simp only[List.replicate_append_replicate]
 have b:List.replicate 241 (0:UInt8)=List.replicate 5 0++(List.replicate l.length 0++List.replicate (236-l.length) 0):=by
  simp only[List.replicate_append_replicate];congr 1;omega
 rw[e,qd7 _ _ _ _ 4 (by simp) (by simp[q6c]),b];have d:List.replicate 4 (0:UInt8)++(hdB h++(List.replicate 5 0++(List.replicate l.length 0++List.replicate (236-l.length) 0)))=(List.replicate 4 0++(hdB h++List.replicate 5 0))++(List.replicate l.length 0++List.replicate (236-l.length) 0):=by simp
 rw[d,qd7 _ _ _ _ 20 (by simp[q6c]) (by simp)];unfold Yn;simp
theorem Qcp (h:Hd)(l:List UInt8)(b:l.length<=236):splice (splice (splice (zrs 256) 4 (hdB h)) 20 l) 0 (Ut (splice (splice (zrs 256) 4 (hdB h)) 20 l))=Zr h l:=by
 rw[Qb6 h l b];unfold Ut Zr splice;have e:(List.replicate 4 (0:UInt8)++Yn h l).drop 4=Yn h l:=List.drop_left' (by simp);rw[e,Yl];simp
theorem qug (l:List UInt8):(Ut l).length=4:=by simp[Ut,Yl]
theorem q55 (w:World)(base:Nat)(e:TypeId):Own w base e none 0 0 []:=⟨by simp,.inl ⟨rfl,rfl⟩⟩
theorem q5u (h:Hd)(A:Option Addr)(n c:Nat)(l:List UInt8)(w:World)(U:Sl w A n c l)(Z:Tab w) :
  Calls Tryz.prog 84 #[.agg #[.int .i64 h.kind,.int .i64 h.addr,.int .i64 h.count,.int .i64 h.level,.int .i64 h.gen],.slice A n c] w λe p=>
   ∃A' n' c',e=.returned (.tuple #[.slice A' n' c',.int .i64 (Xi h l)])/\Own p w.1.size 5 A' n' c' (Xo h l)/\(Xi h l=0->∃g,A'=some ⟨g,0,none⟩/\n'=256/\c'=256)/\Below w.1.size w p:=by
 have b7:=U.len;have b6:=U.cap;have hm:=U.max;unfold maxLen at hm;by_cases f:h.ok=true
 ·by_cases J:l.length<=236
  ·have P:Xi h l=0:=by unfold Xi;rw[if_pos f,if_pos J]
   have M:Xo h l=Zr h l:=by unfold Xo;rw[if_pos f,if_pos J]
   rw[P,M];have hn:¬(236:Int)<(n:Int):=by omega
   go_enter Tryz.func84,Tryz.ntmps84
   go_wp2_with (first
    |(go_at_call 123;refine (q3u h _).mono ?_;rw[f];rintro e K ⟨rfl,d⟩)
    |(at_make;refine q77 _ Gy rfl _ _ rfl _ _ 256 rfl rfl (by omega) ?_)
    |fail)
   intro u m y;have I:HB u w.1.size h:=(HB.below ⟨_,heap_alloc_new w _⟩ d (by simp)).below y (by have:=d.size;rw[World.size_alloc] at this;omega);have b5:=d.size;have c6:=y.size;rw[World.size_alloc] at b5;have F:Below w.1.size w u:=(Qm).trans ((d.mono (by simp)).trans (y.mono (by omega)));have b1:=U.below F;have b3:=Z.below F Z.1;have m:=m.less (show w.1.size<=K.1.size by omega);have L2:=Qb6 h l J;have L3:=Qcp h l J;have hh:=q6c h;have r0:u.cell? ⟨w.1.size,0,none⟩=some (.int .i64 h.kind):=I.at_ 0;have r1:u.cell? ⟨w.1.size,1,none⟩=some (.int .i64 h.addr):=I.at_ 2;have r2:u.cell? ⟨w.1.size,2,none⟩=some (.int .i64 h.count):=I.at_ 3;have r3:u.cell? ⟨w.1.size,3,none⟩=some (.int .i64 h.level):=I.at_ 1;have r4:u.cell? ⟨w.1.size,4,none⟩=some (.int .i64 h.gen):=I.at_ 4;clear d y I;go_wp2_with fail
   have hS:∀p:World,Below (w.1.size+1) u p->p.cell? ⟨w.1.size,0,none⟩=some (.int .i64 h.kind)/\p.cell? ⟨w.1.size,1,none⟩=some (.int .i64 h.addr)/\p.cell? ⟨w.1.size,2,none⟩=some (.int .i64 h.count)/\
    p.cell? ⟨w.1.size,3,none⟩=some (.int .i64 h.level)/\p.cell? ⟨w.1.size,4,none⟩=some (.int .i64 h.gen)/\Below (w.1.size+1) u p:=λp b=>
    ⟨(b.cell (by show w.1.size<_;omega)).trans r0,(b.cell (by show w.1.size<_;omega)).trans r1,(b.cell (by show w.1.size<_;omega)).trans r2,(b.cell (by show w.1.size<_;omega)).trans r3,(b.cell (by show w.1.size<_;omega)).trans r4,b⟩
   have BD:Below (w.1.size+1) u u.drew:=(Below.refl _ _).drew;go_region_held3 (λp=>p.cell? ⟨w.1.size,0,none⟩=some (.int .i64 h.kind)/\p.cell? ⟨w.1.size,1,none⟩=some (.int .i64 h.addr)/\p.cell? ⟨w.1.size,2,none⟩=some (.int .i64 h.count)/\
    p.cell? ⟨w.1.size,3,none⟩=some (.int .i64 h.level)/\p.cell? ⟨w.1.size,4,none⟩=some (.int .i64 h.gen)/\Below (w.1.size+1) u p)
    (first|assumption|exact hS _ BD|exact hS _ ‹Below (w.1.size+1) u _›)
    (first
     |(go_at_call 124;refine (qmz h _).mono ?_;rintro e w4 ⟨A4,n4,c4,rfl,W,Q⟩;have b8:=W.len;have a1:Below (w.1.size+1) u w4:=BD.trans (Q.mono (by show _<=u.1.size;omega));have X:=m.drew.below Q)
     |(refine qij Gy rfl (.tmp 15) (.tmp 17) rfl w.1.size K.1.size 256 (zrs 256) (by assumption) 4 252 252 rfl _ _ _ (hdB h) rfl (by assumption) (by omega) (by omega) ?_;intro w5 Y a7;have a2:Below (w.1.size+1) u w5:=a1.trans (a7.mono (by omega)))
     |fail)
   have O:Below w.1.size w w5:=F.trans (a2.mono (by omega));have b2:=U.below O;clear b1 b3 W X m r0 r1 r2 r3 r4 hS BD;go_wp2_with (first
    |((with_reducible show wpList _ _ _ _ _ _);refine qb6 Gy rfl (.tmp 20) (.tmp 21) rfl w.1.size K.1.size 256 _ Y 20 236 236 rfl A n c l rfl b2 (by omega) (by omega) ?_;intro w6 B a8;have G:=O.trans a8;have b4:=Z.below G Z.1)
    |(go_at_call 125;refine (q87 _ 256 256 _ _ B.sl (by omega) b4).mono ?_;rintro e w7 ⟨A7,n7,c7,rfl,D,R⟩;have b9:n7<=4:=(by have h7:=D.len;rw[qug] at h7;omega);have H:=B.below R)
    |((with_reducible show wpList _ _ _ _ _ _);refine qb6 Gy rfl (.tmp 23) (.tmp 25) rfl w.1.size K.1.size 256 _ H 0 256 256 rfl A7 n7 c7 _ rfl D.sl (by omega) (by omega) ?_;intro w8 E b0;have a6:=G.trans ((R.mono (Below.size G)).trans b0))
    |fail)
   go_ret2;rw[L3] at E;exact⟨_,_,_,rfl,E,λ_=>⟨_,rfl,rfl,rfl⟩,a6⟩
  ·have P:Xi h l=7:=by unfold Xi;rw[if_pos f,if_neg J]
   have M:Xo h l=[]:=by unfold Xo;rw[if_pos f,if_neg J]
   rw[P,M];have hn:(236:Int)<(n:Int):=by omega
   go_enter Tryz.func84,Tryz.ntmps84
   go_wp2_with (first
    |(go_at_call 123;refine (q3u h _).mono ?_;rw[f];rintro e K ⟨rfl,d⟩))
   go_ret2;exact⟨_,_,_,rfl,q55 _ _ _,λh=>by omega,(Qm).trans (d.mono (by simp))⟩
 ·have T:h.ok=false:=by simpa using f
  have P:Xi h l=1:=by unfold Xi;rw[if_neg f]
  have M:Xo h l=[]:=by unfold Xo;rw[if_neg f]
  rw[P,M];go_enter Tryz.func84,Tryz.ntmps84
  go_wp2_with (first
   |(go_at_call 123;refine (q3u h _).mono ?_;rw[T];rintro e K ⟨rfl,d⟩))
  go_ret2;exact⟨_,_,_,rfl,q55 _ _ _,λh=>by omega,(Qm).trans (d.mono (by simp))⟩
