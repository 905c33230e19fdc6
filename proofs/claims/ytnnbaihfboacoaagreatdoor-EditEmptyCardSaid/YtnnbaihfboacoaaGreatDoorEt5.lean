/- Seal's fields, valid, packed, unpacked: the header's five numbers as a block holds them -/
import Derived.Test.YtnnbaihfboacoaaGreatDoorEt2
import Derived.Test.YtnnbaihfboacoaaGreatDoorEt3
import Derived.BigRegion
import Derived.StillTailTactics
import Derived.Deep.RegionHeld3
import Derived.Laws.CopyOwn
namespace Go.Proofs.YtnnbaihfboacoaaGreatDoor
open Go Go.RowKit Go.Proofs
set_option maxHeartbeats 4000000
set_option maxRecDepth 10000
structure Hd where
 kind:Int
 addr:Int
 count:Int
 level:Int
 gen:Int
def Hd.v (h:Hd):Value:=.agg #[.int .i64 h.kind,.int .i64 h.addr,.int .i64 h.count,.int .i64 h.level,.int .i64 h.gen]
def Hd.zero:Hd:=⟨0,0,0,0,0⟩
def Yp:Nat->Nat|0=>0|1=>3|2=>1|3=>2|_=>4
def Y6:Nat->Int|0=>1|1=>1|2=>2|3=>2|_=>5
def F9:Nat->Int|0=>1|_=>0
def He:Nat->Int|0=>6|1=>8|2=>2047|3=>65535|_=>1099511627775
def Hd.Ea (h:Hd):Nat->Int|0=>h.kind|1=>h.level|2=>h.addr|3=>h.count|_=>h.gen
def Hd.set (h:Hd)(k:Nat)(x:Int):Hd:=match k with
 |0=>{ h with kind:=x }
 |1=>{ h with level:=x }
 |2=>{ h with addr:=x }
 |3=>{ h with count:=x }
 |_=>{ h with gen:=x }
def fv (b k:Nat):Value:=.agg #[.pointer (some ⟨b,Yp k,none⟩),.int .i64 (Y6 k),.int .i64 (F9 k),.int .i64 (He k)]
def Di (b:Nat):List Value:=[.pointer (some ⟨b,0,none⟩),.int .i64 1,.int .i64 1,.int .i64 6,.pointer (some ⟨b,3,none⟩),.int .i64 1,.int .i64 0,.int .i64 8,
 .pointer (some ⟨b,1,none⟩),.int .i64 2,.int .i64 0,.int .i64 2047,.pointer (some ⟨b,2,none⟩),.int .i64 2,.int .i64 0,.int .i64 65535,.pointer (some ⟨b,4,none⟩),.int .i64 5,.int .i64 0,.int .i64 1099511627775]
def fvs (b:Nat):Value:=.agg (Di b).toArray
def HB (w:World)(b:Nat)(h:Hd):Prop:=∃t,w.1[b]?=some (.cells #[.int .i64 h.kind,.int .i64 h.addr,.int .i64 h.count,.int .i64 h.level,.int .i64 h.gen] t (0,0))
theorem qr8 (w:World)(b:Array Value)(t:TypeId):(w.alloc (.cells b t)).there w.1.size 0 b.size:=λj f=>by
 have d:(w.alloc (.cells b t)).1[w.1.size]?=some (.cells b t (0,0)):=heap_alloc_new w _;refine⟨?_,by unfold World.frozen?;rw[d];simp⟩;rw[cell_of_row _ _ _ _ _ _ d,Nat.zero_add,Array.getElem?_eq_getElem f];rfl
theorem q2r {d:Func}{p:Tmp}{ty:TypeId}{f:Addr}{v:Value}{P:Program}{w:World}{b:Array Value}(h:d.results=#[.cell p ty])(u:b.getD p undef=.pointer (some f))(y:(loadVar ty f).run P w=.ok v w) :
  (results d b).run P w=.ok v w:=by
 have e:(results d b).run P w=((asAddr (b.getD p undef)).run P w).andThen λa m=>(loadVar ty a).run P m:=by
  simp only[results,h];simp[Sem.run_bind,Result.andThen];try rfl
 rw[e,u];simp[asAddr,y]
theorem idx (b k:Nat)(d:k<5)(w:World):(Instr.index 232 (fvs b) (.int .i64 (k:Int))).run Tryz.prog w=.ok (fv b k) w:=by
 match k,d with
 |0,_=>show (Instr.index 232 (fvs b) (.int .i64 0)).run Tryz.prog w=_;kernel_rfl
 |1,_=>show (Instr.index 232 (fvs b) (.int .i64 1)).run Tryz.prog w=_;kernel_rfl
 |2,_=>show (Instr.index 232 (fvs b) (.int .i64 2)).run Tryz.prog w=_;kernel_rfl
 |3,_=>show (Instr.index 232 (fvs b) (.int .i64 3)).run Tryz.prog w=_;kernel_rfl
 |4,_=>show (Instr.index 232 (fvs b) (.int .i64 4)).run Tryz.prog w=_;kernel_rfl
theorem q86 (b:Nat)(w:World) :
  Calls Tryz.prog 156 #[.pointer (some ⟨b,0,none⟩)] w λe w'=>e=.returned (fvs b)/\Below w.1.size w w':=by
 go_enter Tryz.func156,Tryz.ntmps156
 go_wp2;generalize f:w.alloc _=d;go_still_tail 21,(by kernel_rfl)
 change wpList _ _ _ _ _ d.drew;have m:Below w.1.size w d:=by rw[<-f];exact Qm
 have y:d.drew.there w.1.size 0 20:=by
  show d.there w.1.size 0 20;rw[<-f];exact qr8 w _ _
 clear f;refine wpList_store_mid rfl _ _ _ rfl w.1.size 0 (Di b).toArray rfl rfl y (by kernel_rfl) (by simp[Di,Value.oneCell']) ?_;have u:(d.drew.setCells w.1.size 0 (Di b)).rangeAt w.1.size 0 (Di b):=World.rangeAt_setCells_same _ _ _ _ y;have p:Below w.1.size w (d.drew.setCells w.1.size 0 (Di b)):=m.drew.trans ((Us (S:=λk=>k=w.1.size) rfl (Di b) 0 d.drew).below (λx B=>by omega) (m.size));change wpList _ _ _ _ _ (d.drew.setCells w.1.size 0 (Di b));generalize d.drew.setCells w.1.size 0 (Di b)=A at u p ⊢;go_wp2;refine bodyPost_ret (v:=fvs b) ?_ rfl ⟨rfl,p⟩;exact q2r Tryz.results156 rfl (run_loadVar_mid A w.1.size 0 232 (Di b) _ u Tryz.underlying232 rfl (by kernel_rfl))
theorem HB.at_ {w:World}{bp:Nat}{h:Hd}(H:HB w bp h)(k:Nat):w.cell? ⟨bp,Yp k,none⟩=some (.int .i64 (h.Ea k)):=by
 obtain⟨t,H⟩:=H;rw[cell_of_row _ _ _ _ _ _ H];match k with
 |0=>rfl
 |1=>rfl
 |2=>rfl
 |3=>rfl
 |_+4=>rfl
theorem HB.below {w w':World}{bp:Nat}{h:Hd}(H:HB w bp h){B:Nat}(hb:Below B w w')(hB:bp<B):HB w' bp h:=by
 obtain⟨t,H⟩:=H;exact⟨t,(hb.block bp hB).trans H⟩
theorem Qbh (b k:Nat)(d:k<5)(w:World):(Instr.index 232 (fvs b) (.int .i64 (k:Int))).run Tryz.prog w=.ok (.agg #[.pointer (some ⟨b,Yp k,none⟩),.int .i64 (Y6 k),.int .i64 (F9 k),.int .i64 (He k)]) w:=idx b k d w
def Hd.in_ (h:Hd)(k:Nat):Prop:=F9 k<=h.Ea k/\h.Ea k<=He k
def Hd.ok (h:Hd):Bool:=decide ((1<=h.kind/\h.kind<=6)/\(0<=h.level/\h.level<=8)/\(0<=h.addr/\h.addr<=2047)/\(0<=h.count/\h.count<=65535)/\0<=h.gen/\h.gen<=1099511627775)
theorem Hd.Qcc (h:Hd)(H:∀j<5,h.in_ j):h.ok=true:=by
 have h0:=H 0 (by omega);have h1:=H 1 (by omega);have h2:=H 2 (by omega);have d:=H 3 (by omega);have b:=H 4 (by omega);exact decide_eq_true ⟨h0,h1,h2,d,b⟩
theorem Hd.Qa0 (h:Hd)(H:h.ok=true)(j:Nat)(hj:j<5):h.in_ j:=by
 obtain⟨h0,h1,h2,d,b⟩:=of_decide_eq_true H;match j,hj with
 |0,_=>exact h0
 |1,_=>exact h1
 |2,_=>exact h2
 |3,_=>exact d
 |4,_=>exact b
theorem q3u (h:Hd)(w:World) :
  Calls Tryz.prog 123 #[.agg #[.int .i64 h.kind,.int .i64 h.addr,.int .i64 h.count,.int .i64 h.level,.int .i64 h.gen]] w λe w'=>e=.returned (.bool h.ok)/\Below w.1.size w w':=by
 go_enter Tryz.func123,Tryz.ntmps123
 go_wp2_with (go_at_call 156;refine (q86 w.1.size _).mono ?_;rintro e R ⟨rfl,m⟩)
 have X:HB R w.1.size h:=HB.below ⟨_,heap_alloc_new w _⟩ m (by simp);have F:Below w.1.size w R:=(Qm).trans (m.mono (by simp));have G:=m.size;rw[World.size_alloc] at G;go_loopw [6] (λi wr=>∃k:Nat,k<=5/\i=.int .i64 (k:Int)/\(∀j<k,h.in_ j)/\HB wr w.1.size h/\Below w.1.size w wr/\w.1.size<wr.1.size) (λi _=>5-(intOf i).toNat)
 case atStart=>exact⟨0,by omega,rfl,λj Y=>by omega,X,F,by omega⟩
 case round=>
  obtain⟨k,hk,rfl,A,H,B,y⟩:=hrel;by_cases J:k<5
  ·have D:=Qbh w.1.size k J;have I:=H.at_ k;have T:(0:Int)<=(k:Int):=by omega
   have O:∀o:Obj,(wr.alloc o).cell? ⟨w.1.size,Yp k,none⟩=some (.int .i64 (h.Ea k)):=λo=>((Below.refl _ _).alloc (Nat.le_refl _) o).cell y |>.trans I
   go_wp2;generalize f:wr.alloc _=b;have d:Below wr.1.size wr b:=by rw[<-f];exact Qm
   have hn:b.1[wr.1.size]?=some (.cells #[.pointer (some ⟨w.1.size,Yp k,none⟩),.int .i64 (Y6 k),.int .i64 (F9 k),.int .i64 (He k)] 231 (0,0)):=by rw[<-f];exact heap_alloc_new wr _
   have U:b.1.size=wr.1.size+1:=by rw[<-f];simp
   clear f D;have q0:b.cell? ⟨wr.1.size,0,none⟩=some (.pointer (some ⟨w.1.size,Yp k,none⟩)):=by rw[cell_of_row _ _ _ _ _ _ hn];rfl
   have q2:b.cell? ⟨wr.1.size,2,none⟩=some (.int .i64 (F9 k)):=by rw[cell_of_row _ _ _ _ _ _ hn];rfl
   have q3:b.cell? ⟨wr.1.size,3,none⟩=some (.int .i64 (He k)):=by rw[cell_of_row _ _ _ _ _ _ hn];rfl
   have qc:b.cell? ⟨w.1.size,Yp k,none⟩=some (.int .i64 (h.Ea k)):=(d.cell y).trans I;have W:=H.below d y;have p:=B.trans (d.mono B.size);clear B H I O hn d;generalize hx:h.Ea k=x at *;generalize Z:F9 k=lo at *;generalize hm:He k=Q at *;by_cases h1:x<lo
   ·have u:h.ok=false:=by
     cases K:h.ok
     ·rfl
     ·have:=(h.Qa0 K k J).1;omega
    go_quiet (fail)
    go_wp2;go_ret;exact⟨by first|rfl|(rw[u];rfl),q1g p _⟩
   ·have g1:decide (x<lo)=false:=decide_eq_false h1;by_cases h2:Q<x
    ·have u:h.ok=false:=by
      cases K:h.ok
      ·rfl
      ·have:=(h.Qa0 K k J).2;omega
     go_quiet (fail)
     go_wp2;go_ret;exact⟨by first|rfl|(rw[u];rfl),q1g p _⟩
    ·have g2:decide (Q<x)=false:=decide_eq_false h2;go_quiet (fail)
     go_wp2;refine⟨⟨k+1,by omega,rfl,λj Y=>?_,W.below (q1g (Below.refl b.1.size b) _) (by omega),q1g p _,by show w.1.size<b.1.size;omega⟩,by simp[intOf];omega⟩;by_cases M:j=k
     ·rw[M];unfold Hd.in_;rw[hx,Z,hm];omega
     ·exact A j (by omega)
  ·have E:k=5:=by omega
   go_wp2;go_ret;exact⟨by rw[h.Qcc (by rw[<-E];exact A)];rfl,B⟩
def hdB (h:Hd):List UInt8:=Zc h.kind 1++(Zc h.level 1++(Zc h.addr 2++(Zc h.count 2++Zc h.gen 5)))
def Gm (h:Hd):Nat->List UInt8
 |0=>[]
 |k+1=>Gm h k++Zc (h.Ea k) (Y6 k).toNat
theorem qud (h:Hd)(k:Nat)(b:k<=5):(Gm h k).length<=11:=by
 match k,b with
 |0,_=>simp[Gm]
 |1,_=>simp[Gm,Yl,Y6]
 |2,_=>simp[Gm,Yl,Y6]
 |3,_=>simp[Gm,Yl,Y6]
 |4,_=>simp[Gm,Yl,Y6]
 |5,_=>simp[Gm,Yl,Y6]
theorem que (h:Hd):Gm h 5=hdB h:=by simp[Gm,hdB,Hd.Ea,Y6]
theorem qr9 (k:Nat):1<=Y6 k/\Y6 k<=5:=by
 match k with
 |0=>decide
 |1=>decide
 |2=>decide
 |3=>decide
 |_+4=>exact⟨by show (1:Int)<=5;omega,by show (5:Int)<=5;omega⟩
theorem qmz (h:Hd)(w:World) :
  Calls Tryz.prog 124 #[.agg #[.int .i64 h.kind,.int .i64 h.addr,.int .i64 h.count,.int .i64 h.level,.int .i64 h.gen]] w λe w'=>∃A n c,e=.returned (.slice A n c)/\Sl w' A n c (hdB h)/\Below w.1.size w w':=by
 go_enter Tryz.func124,Tryz.ntmps124
 go_wp2_with (go_at_call 156;refine (q86 w.1.size _).mono ?_;rintro e T ⟨rfl,u⟩)
 have Z:HB T w.1.size h:=HB.below ⟨_,heap_alloc_new w _⟩ u (by simp);have J:Below w.1.size w T:=(Qm).trans (u.mono (by simp));have K:=u.size;rw[World.size_alloc] at K;go_loopw [3,7] (λs i wr=>∃(k:Nat) (A:Option Addr) (n c:Nat),k<=5/\s=.slice A n c/\i=.int .i64 (k:Int)/\Sl wr A n c (Gm h k)/\HB wr w.1.size h/\Below w.1.size w wr/\w.1.size<wr.1.size) (λ_ i _=>5-(intOf i).toNat)
 case atStart=>exact⟨0,none,0,0,by omega,rfl,rfl,q24 _,Z,J,by omega⟩
 case round=>
  obtain⟨k,A,n,c,hk,rfl,rfl,y,H,E,D⟩:=hrel;by_cases h5:k<5
  ·have G:=Qbh w.1.size k h5;have R:=H.at_ k;have U:(0:Int)<=(k:Int):=by omega
   go_wp2;generalize m:wr.alloc _=p;have b:Below wr.1.size wr p:=by rw[<-m];exact Qm
   have hn:p.1[wr.1.size]?=some (.cells #[.pointer (some ⟨w.1.size,Yp k,none⟩),.int .i64 (Y6 k),.int .i64 (F9 k),.int .i64 (He k)] 231 (0,0)):=by rw[<-m];exact heap_alloc_new wr _
   have W:p.1.size=wr.1.size+1:=by rw[<-m];simp
   clear m G;have q0:p.cell? ⟨wr.1.size,0,none⟩=some (.pointer (some ⟨w.1.size,Yp k,none⟩)):=by rw[cell_of_row _ _ _ _ _ _ hn];rfl
   have q1:p.cell? ⟨wr.1.size,1,none⟩=some (.int .i64 (Y6 k)):=by rw[cell_of_row _ _ _ _ _ _ hn];rfl
   have qc:p.cell? ⟨w.1.size,Yp k,none⟩=some (.int .i64 (h.Ea k)):=(b.cell D).trans R;have X:=H.below b D;have M:=y.below b;have B:=E.trans (b.mono E.size);have Q:=y.len;have Y:=qud h k hk;have a1:=qr9 k;have O:Ce (Gm h k) (h.Ea k) (Y6 k)=Gm h (k+1):=by unfold Ce;rw[if_pos (by omega)];rfl
   clear E H R hn b y;go_still_tail 7,(by kernel_rfl)
   change wpList _ _ _ _ _ p.drew;go_wp2_with (go_at_call 126;refine (q9l A n c (Gm h k) (h.Ea k) (Y6 k) _ M.drew (by omega)).mono ?_;rintro e w3 ⟨A3,n3,c3,rfl,d,F⟩)
   rw[O] at d;have f:Below p.1.size p w3:=(Below.refl _ _).drew.trans F;exact⟨⟨k+1,A3,n3,c3,by omega,rfl,rfl,d.sl,X.below f (by omega),B.trans (f.mono B.size),by have:=f.size;omega⟩,by simp[intOf];omega⟩
  ·have I:k=5:=by omega
   go_wp2;go_ret;rw[I,que] at y;exact⟨A,n,c,rfl,y,E⟩
def Ur:Nat->Nat|0=>0|1=>1|2=>2|3=>4|4=>6|_=>11
def rdF (l:List UInt8)(k:Nat):Nat:=Q8 ((l.drop (Ur k)).take (Y6 k).toNat)
def Qbk (l:List UInt8):Nat->Hd
 |0=>Hd.zero
 |k+1=>(Qbk l k).set k (rdF l k)
def G6 (l:List UInt8):Hd:=⟨Q8 (l.take 1),Q8 ((l.drop 2).take 2),Q8 ((l.drop 4).take 2),Q8 ((l.drop 1).take 1),Q8 ((l.drop 6).take 5)⟩
theorem quf (l:List UInt8):Qbk l 5=G6 l:=rfl
theorem qra (k:Nat)(b:k<5):Ur (k+1)=Ur k+(Y6 k).toNat:=by
 match k,b with
 |0,_=>rfl
 |1,_=>rfl
 |2,_=>rfl
 |3,_=>rfl
 |4,_=>rfl
theorem qwx (k:Nat)(b:k<=5):Ur k<=11:=by
 match k,b with
 |0,_=>decide
 |1,_=>decide
 |2,_=>decide
 |3,_=>decide
 |4,_=>decide
 |5,_=>decide
theorem HB.Vr {w:World}{bp:Nat}{h:Hd}(H:HB w bp h)(k:Nat)(x:Int):HB (w.setCell ⟨bp,Yp k,none⟩ (.int .i64 x)) bp (h.set k x):=by
 obtain⟨t,H⟩:=H;refine⟨t,(heap_setCell_same w bp (Yp k) _ t (.int .i64 x) H).trans ?_⟩;match k with
 |0=>rfl
 |1=>rfl
 |2=>rfl
 |3=>rfl
 |_+4=>rfl
theorem HB.fz {w:World}{bp:Nat}{h:Hd}(H:HB w bp h)(k:Nat):w.frozen? ⟨bp,Yp k,none⟩=false:=by
 obtain⟨t,H⟩:=H;unfold World.frozen?;rw[H];simp
theorem HB.zero (w:World)(t:TypeId):HB (w.alloc (.cells #[.int .i64 0,.int .i64 0,.int .i64 0,.int .i64 0,.int .i64 0] t)) w.1.size Hd.zero:=⟨t,heap_alloc_new w _⟩
theorem Own.turn {w w':World}{base n c:Nat}{e:TypeId}{A:Option Addr}{l:List UInt8}(h:Own w base e A n c l)(hk:∀g,base<=g->g<w.1.size->w'.1[g]?=w.1[g]?):Own w' base e A n c l:=by
 refine⟨h.1,?_⟩;rcases h.2 with b|⟨g,cap,d,b,h1,f,r⟩
 ·exact .inl b
 ·exact .inr ⟨g,cap,d,b,h1,(hk g h1 (Array.getElem?_eq_some_iff.1 f).1).trans f,r⟩
def Hd.vs (h:Hd):List Value:=[.int .i64 h.kind,.int .i64 h.addr,.int .i64 h.count,.int .i64 h.level,.int .i64 h.gen]
theorem HB.range {w:World}{bp:Nat}{h:Hd}(H:HB w bp h):w.rangeAt bp 0 h.vs:=λj v b=>by
 obtain⟨t,H⟩:=H;rw[cell_of_row _ _ _ _ _ _ H,Nat.zero_add];simpa [Hd.vs] using b
theorem HB.there {w:World}{bp:Nat}{h:Hd}(H:HB w bp h):w.there bp 0 5:=λj b=>by
 obtain⟨t,H⟩:=H;refine⟨?_,by unfold World.frozen?;rw[H];simp⟩;rw[cell_of_row _ _ _ _ _ _ H,Nat.zero_add,Array.getElem?_eq_getElem (by simpa using b)];rfl
theorem q5t {f:Array Oper}{d:List Oper}{o:Oper}{a:Act}{w:World}{Q:Exit->Act->World->Prop}(p:o.guard=none)(x:Operand)(m:o.op=Op.load 150 x)
  (b:Nat) (y:a.eval x=.pointer (some ⟨b,0,none⟩)) (h:Hd) (H:HB w b h) (u:wpList Tryz.prog f Q d (a.put o.dst h.v) w):wpList Tryz.prog f Q (o::d) a w:=
 wpList_load_mid p _ x m b 0 y h.vs _ H.range Tryz.underlying150 rfl (by kernel_rfl) u
theorem Pz {f:Array Oper}{d:List Oper}{o:Oper}{a:Act}{w:World}{Q:Exit->Act->World->Prop}(u:o.guard=none)(x y:Operand)(m:o.op=Op.store 150 x y)
  (b:Nat) (p:a.eval x=.pointer (some ⟨b,0,none⟩)) (h h0:Hd) (A:a.eval y=h.v) (H:HB w b h0) (E:b<w.1.size)
  (D:∀w',w'.rangeAt b 0 h.vs->(∀B,B<=b->Below B w w')->Turn (λk=>k=b) w w'->wpList Tryz.prog f Q d (a.put o.dst undef) w'):wpList Tryz.prog f Q (o::d) a w:=
 wpList_store_mid u _ x y m b 0 h.vs.toArray p A H.there (by kernel_rfl) (by simp[Hd.vs,Value.oneCell'])
  (D _ (World.rangeAt_setCells_same _ _ _ _ H.there) (λB F=>(Us (S:=λk=>k=b) rfl h.vs 0 w).below (λx p=>by omega) (by omega)) (Us (S:=λk=>k=b) rfl h.vs 0 w))
theorem q54 (A:Option Addr)(c:Nat)(l:List UInt8)(w:World)(hs:Sl w A 11 c l) :
  Calls Tryz.prog 133 #[.slice A 11 c] w λe w'=>e=.returned (G6 l).v/\Below w.1.size w w':=by
 go_enter Tryz.func133,Tryz.ntmps133
 go_wp2_with (go_at_call 156;refine (q86 (w.1.size+1) _).mono ?_;rintro e Z ⟨rfl,d⟩)
 have R:=d.size;simp only[World.size_alloc] at R d;have G:Below w.1.size w Z:=(((Below.refl _ w).alloc (Nat.le_refl _) _).alloc (by simp) _).trans (d.mono (by omega));have hR:HB Z w.1.size Hd.zero:=((HB.zero w _).below (Qm) (by simp)).below d (by omega);have hH:HB Z (w.1.size+1) Hd.zero:=by
  have:=HB.zero (w.alloc (.cells #[.int .i64 0,.int .i64 0,.int .i64 0,.int .i64 0,.int .i64 0] 150)) 150;rw[World.size_alloc] at this;exact this.below d (by omega)
 clear d;have hl:=hs.len;go_loopw [0,7] (λs i wr=>∃(k:Nat) (A:Option Addr) (c:Nat),k<=5/\s=.slice A (11-Ur k) c/\i=.int .i64 (k:Int)/\Sl wr A (11-Ur k) c (l.drop (Ur k))/\HB wr w.1.size Hd.zero/\HB wr (w.1.size+1) (Qbk l k)/\Below w.1.size w wr/\w.1.size+2<=wr.1.size) (λ_ i _=>5-(intOf i).toNat)
 case atStart=>exact⟨0,A,c,by omega,rfl,rfl,by simpa [Ur] using hs.below G,hR,hH,G,by omega⟩
 case round=>
  obtain⟨k,A1,c1,hk,rfl,rfl,D,B,H,K,b2⟩:=hrel;by_cases h5:k<5
  ·have Q:=Qbh (w.1.size+1) k h5;have a8:(0:Int)<=(k:Int):=by omega
   go_wp2;generalize y:wr.alloc _=b;have m:Below wr.1.size wr b:=by rw[<-y];exact Qm
   have hn:b.1[wr.1.size]?=some (.cells #[.pointer (some ⟨w.1.size+1,Yp k,none⟩),.int .i64 (Y6 k),.int .i64 (F9 k),.int .i64 (He k)] 231 (0,0)):=by rw[<-y];exact heap_alloc_new wr _
   have b1:b.1.size=wr.1.size+1:=by rw[<-y];simp
   clear y Q;have q0:b.cell? ⟨wr.1.size,0,none⟩=some (.pointer (some ⟨w.1.size+1,Yp k,none⟩)):=by rw[cell_of_row _ _ _ _ _ _ hn];rfl
   have q1:b.cell? ⟨wr.1.size,1,none⟩=some (.int .i64 (Y6 k)):=by rw[cell_of_row _ _ _ _ _ _ hn];rfl
   have H1:=H.below m (by omega);have a7:=B.below m (by omega);have U:=D.below m;have F:=K.trans (m.mono K.size);have Y:=qra k h5;have b0:=qwx (k+1) (by omega);have b3:=qr9 k;have a1:(l.drop (Ur k)).drop (Y6 k).toNat=l.drop (Ur (k+1)):=by rw[List.drop_drop,Y]
   have a6:(Q8 ((l.drop (Ur k)).take (Y6 k).toNat):Int)=(rdF l k:Int):=rfl;clear K H hn m D B;have HT:=λ(w':World) (h':Sl w' A1 (11-Ur k) c1 (l.drop (Ur k)))=>q6w A1 (11-Ur k) c1 (l.drop (Ur k)) (Y6 k) w' h' (by omega) (by omega) (by omega) (by omega)
   rw[a1,a6] at HT;have X:∀w':World,Turn (λk=>k=w.1.size+1) b w'->w'.cell? ⟨wr.1.size,0,none⟩=some (.pointer (some ⟨w.1.size+1,Yp k,none⟩))/\w'.cell? ⟨wr.1.size,1,none⟩=some (.int .i64 (Y6 k))/\Turn (λk=>k=w.1.size+1) b w':=λw' T=>⟨(World.cell?_of_block (T.block wr.1.size (by omega) (by show ¬(wr.1.size=w.1.size+1);omega))).trans q0,(World.cell?_of_block (T.block wr.1.size (by omega) (by show ¬(wr.1.size=w.1.size+1);omega))).trans q1,T⟩
   have TD:Turn (λk=>k=w.1.size+1) b b.drew:=Qv (Below.refl _ _).drew;go_region_held3 (λw'=>w'.cell? ⟨wr.1.size,0,none⟩=some (.pointer (some ⟨w.1.size+1,Yp k,none⟩))/\w'.cell? ⟨wr.1.size,1,none⟩=some (.int .i64 (Y6 k))/\Turn (λk=>k=w.1.size+1) b w')
    (first|assumption|exact X _ TD|(go_split_ands;exact X _ (Turn.then ‹Turn (λk=>k=w.1.size+1) b _› (Qv ‹Below (World.heap _).size _ _›)))|(go_split_ands;exact X _ (Turn.then ‹Turn (λk=>k=w.1.size+1) b _› (Ez _ rfl))))
    (first
     |(go_at_call 149;refine (HT _ U.drew).mono ?_;rintro e I ⟨A3,n3,c3,rfl,u,M⟩;have f:Below b.1.size b I:=(Below.refl _ b).drew.trans M;have W:=H1.below f (by omega);have q5:=W.at_ k;have q6:=W.fz k)
     |fail)
   have a2:n3=11-Ur (k+1):=by have:=u.len;rw[List.length_drop,hl] at this;omega
   subst a2;go_wp2;have J:Below (w.1.size+1) I (I.setCell ⟨w.1.size+1,Yp k,none⟩ (.int .i64 (rdF l k:Int))):=(Below.refl _ I).setCell (p:=⟨w.1.size+1,Yp k,none⟩) (Nat.le_refl _) _;have b4:=f.size;refine⟨⟨k+1,A3,c3,by omega,rfl,rfl,?_,(a7.below f (by omega)).below J (by omega),W.Vr k _,(F.trans (f.mono F.size)).trans (J.mono (by omega)),by show w.1.size+2<=(I.setCell _ _).1.size;rw[World.size_setCell];omega⟩,by simp[intOf];omega⟩;exact (u.turn λg hg _=>Below.heap_setCell _ _ _ _ (by show g≠w.1.size+1;have h1:b.drew.1.size=b.1.size:=rfl;omega)).sl
  ·have O:k=5:=by omega
   go_wp2_with (first
    |(refine q5t rfl _ rfl _ rfl _ H ?_)
    |(refine Pz rfl _ _ rfl _ rfl _ _ rfl B (by omega) ?_;intro w4 E f _))
   refine bodyPost_ret (v:=(G6 l).v) ?_ rfl ⟨rfl,?_⟩
   ·rw[O,quf] at E;exact q2r Tryz.results133 rfl (run_loadVar_mid _ w.1.size 0 150 _ _ E Tryz.underlying150 rfl (by kernel_rfl))
   ·exact K.trans (f _ (Nat.le_refl _))
theorem qd6 {α β:Type}(f:α->β)(L:List α)(o:Nat)(b:List α):splice (L.map f) o (b.map f)=(splice L o b).map f:=by simp[splice]
theorem Own.whole {w:World}{base n g:Nat}{e:TypeId}{l:List UInt8}(h:Own w base e (some ⟨g,0,none⟩) n n l):base<=g/\w.1[g]?=some (.cells (l.map bv).toArray e (0,0))/\n<=maxLen:=by
 rcases h.2 with⟨d,_⟩|⟨B,cap,m,d,u,p,h1,h2,A,y⟩
 ·injection d with b;cases b
 ·injection d with b D f;injection b with b;injection b with b;subst b;subst f;refine⟨u,?_,h2⟩;rw[<-y,List.take_of_length_le (by simp[A])];exact p
theorem Own.of_whole {w:World}{base n g:Nat}{e:TypeId}{l:List UInt8}(hb:base<=g)(hg:w.1[g]?=some (.cells (l.map bv).toArray e (0,0)))(hl:l.length=n)(hm:n<=maxLen):Own w base e (some ⟨g,0,none⟩) n n l:=
 ⟨by simpa using hl,.inr ⟨g,n,_,rfl,hb,hg,Nat.le_refl _,hm,by simpa using hl,by rw[List.take_of_length_le (by simp[hl])]⟩⟩
theorem qb6 {P:Program}{t e:TypeId}(T:Y0 P t e){w:World}{D:Array Oper}{p:List Oper}{o:Oper}{a:Act}{Q:Exit->Act->World->Prop}(I:o.guard=none)(d s:Operand)
  (ho:o.op=.call { callee:=.builtin .copy,args:=#[d,s],argTypes:=#[t,t] })
  (base g n:Nat) (l:List UInt8) (u:Own w base e (some ⟨g,0,none⟩) n n l) (off f A:Nat) (hd:a.eval d=.slice (some ⟨g,off,none⟩) f A)
  (B:Option Addr) (m c:Nat) (F:List UInt8) (U:a.eval s=.slice B m c) (H:Sl w B m c F) (E:m<=f) (O:off+m<=n)
  (hK:∀w',Own w' base e (some ⟨g,0,none⟩) n n (splice l off F)->Below base w w'->wpList P D Q p (a.put o.dst (goInt m)) w'):wpList P D Q (o::p) a w:=by
 obtain⟨i,hi,a1,J,a2⟩:=info_parts T.info;obtain⟨M,R,hm⟩:=u.whole;have hl:=u.len;have y:=H.len;refine wpList_copy_splice I d s t t ho e T.sl (by rw[hi];simp[J]) _ _ _ _ _ _ hd U g off (l.map bv) e R (F.map bv) (by rw[List.length_map,y];exact (Nat.min_eq_left E).symm) (λh0=>?_) (by simp;omega) (qf0 _) base w (Below.refl _ _) M ?_
 ·rw[List.length_map] at h0;obtain⟨W,rfl,_⟩:=H.cell (k:=0) (by omega);refine⟨rfl,W,rfl,λj v X=>?_⟩;obtain⟨Y,K,_,Z⟩:=H.2.2.2 j v X;injection K with K;subst K;exact Z
 ·intro w' b G;have b:=b.out;rw[qd6] at b;have:=hK w' (Own.of_whole M b (by rw[length_splice _ _ _ (by omega),hl]) hm) G;rw[List.length_map,y];exact this
theorem qij {P:Program}{t e:TypeId}(T:Y0 P t e){w:World}{G:Array Oper}{o:Oper}{a:Act}{K:Act->World->Prop}{Q:Exit->Act->World->Prop}{E:Prop}(I:o.guard=none)(d s:Operand)
  (ho:o.op=.call { callee:=.builtin .copy,args:=#[d,s],argTypes:=#[t,t] })
  (base g n:Nat) (l:List UInt8) (p:Own w base e (some ⟨g,0,none⟩) n n l) (off f y:Nat) (hd:a.eval d=.slice (some ⟨g,off,none⟩) f y)
  (B:Option Addr) (m c:Nat) (D:List UInt8) (W:a.eval s=.slice B m c) (H:Sl w B m c D) (A:m<=f) (O:off+m<=n)
  (hK:∀w',Own w' base e (some ⟨g,0,none⟩) n n (splice l off D)->Below g w w'->K (a.put o.dst (goInt m)) w'):if Region.wanted o (yielded G a.tmps)=true then Oper.wp P o a w K Q else E:=by
 obtain⟨i,hi,a1,J,a2⟩:=info_parts T.info;obtain⟨U,R,hm⟩:=p.whole;have hl:=p.len;have u:=H.len;refine step_copy_splice I d s t t ho e T.sl (by rw[hi];simp[J]) _ _ _ _ _ _ hd W g off (l.map bv) e R (D.map bv) (by rw[List.length_map,u];exact (Nat.min_eq_left A).symm) (λh0=>?_) (by simp;omega) (qf0 _) g w (Below.refl _ _) (Nat.le_refl _) ?_
 ·rw[List.length_map] at h0;obtain⟨X,rfl,_⟩:=H.cell (k:=0) (by omega);refine⟨rfl,X,rfl,λj v Y=>?_⟩;obtain⟨Z,M,_,hc⟩:=H.2.2.2 j v Y;injection M with M;subst M;exact hc
 ·intro w' b F;have b:=b.out;rw[qd6] at b;have:=hK w' (Own.of_whole U b (by rw[length_splice _ _ _ (by omega),hl]) hm) F;rw[List.length_map,u];exact this
def Ut (l:List UInt8):List UInt8:=Zc (more 0 (l.drop 4):Nat) 4
theorem q87 (A:Option Addr)(n c:Nat)(l:List UInt8)(w:World)(p:Sl w A n c l)(hn:5<=n)(G:Tab w) :
  Calls Tryz.prog 125 #[.slice A n c] w λe w'=>∃y B D,e=.returned (.slice y B D)/\Own w' w.1.size 5 y B D (Ut l)/\Below w.1.size w w':=by
 have J:=p.cap;have hm:=p.max;unfold maxLen at hm;have F:=p.drop (k:=4) (by omega);have u:¬c=4:=by omega
 rw[if_neg u] at F;have m:=qvn 0 (l.drop 4);generalize E:more 0 (l.drop 4)=s at m;have d:Ce [] (s:Int) 4=Ut l:=by unfold Ce Ut;rw[E];simp
 go_enter Tryz.func125,Tryz.ntmps125
 go_wp2_with (first
  |(go_at_call 157;refine (qvp _ (n-4) (c-4) (l.drop 4) _ F G).mono ?_;rw[E];rintro e H ⟨rfl,rfl⟩)
  |(go_at_call 126;refine (q9l none 0 0 [] (s:Int) 4 _ (q24 _) (by omega)).mono ?_;rw[d];rintro e H ⟨I,K,c3,rfl,b,f⟩))
 go_ret;exact⟨_,_,_,rfl,b,f⟩
def Y3 (l:List UInt8):Bool:=l.all (·==0)
theorem qb7 (A:Option Addr)(n c:Nat)(l:List UInt8)(w:World)(d:Sl w A n c l) :
  Calls Tryz.prog 134 #[.slice A n c] w λe w'=>e=.returned (.bool (Y3 l))/\w=w':=by
 have M:=d.cap;have hm:=d.max;have D:=d.len;unfold maxLen at hm;go_enter Tryz.func134,Tryz.ntmps134
 go_wp2;go_loop [7] (λi=>∃k:Nat,k<=n/\i=.int .i64 (k:Int)/\∀j<k,Wh l j=0) (λi=>n-(intOf i).toNat)
 case atStart=>exact⟨0,Nat.zero_le _,rfl,λj B=>by omega⟩
 case round=>
  obtain⟨k,I,rfl,b⟩:=hrel;by_cases m:k<n
  ·obtain⟨K,rfl,J,y⟩:=d.cell m;have E:=q9i l k;by_cases h0:Wh l k=0
   ·have p:(Wh l k:Int)=0:=by omega
    go_wp2;exact⟨⟨k+1,by omega,by go_num,λj B=>by by_cases f:j=k;(rw[f];exact h0);exact b j (by omega)⟩,by simp[intOf];omega⟩
   ·have p:¬(Wh l k:Int)=0:=by omega
    have u:Y3 l=false:=by
     cases F:Y3 l
     ·rfl
     ·have:=List.all_eq_true.1 F (l.getD k 0) (by rw[List.getD_eq_getElem?_getD,List.getElem?_eq_getElem (by omega)];simp);simp at this;unfold Wh at h0;rw[List.getD_eq_getElem?_getD,this] at h0;exact absurd rfl h0
    go_wp2;go_ret;exact⟨by first|rfl|(rw[u];rfl),rfl⟩
  ·have G:k=n:=by omega
   have u:Y3 l=true:=by
    refine List.all_eq_true.2 λx H=>?_
    obtain⟨j,B,rfl⟩:=List.getElem_of_mem H;have:=b j (by omega);unfold Wh at this;rw[List.getD_eq_getElem?_getD,List.getElem?_eq_getElem B] at this;simpa using UInt8.toNat_inj.1 this
   go_wp2;go_ret;exact⟨by first|rfl|(rw[u];rfl),rfl⟩
def Yn (h:Hd)(l:List UInt8):List UInt8:=hdB h++(List.replicate 5 0++(l++List.replicate (236-l.length) 0))
def Zr (h:Hd)(l:List UInt8):List UInt8:=Zc (more 0 (Yn h l):Nat) 4++Yn h l
def Xi (h:Hd)(l:List UInt8):Int:=if h.ok=true then if l.length<=236 then 0 else 7 else 1
def Xo (h:Hd)(l:List UInt8):List UInt8:=if h.ok=true then if l.length<=236 then Zr h l else [] else []
theorem q6c (h:Hd):(hdB h).length=11:=by simp[hdB,Yl]
theorem qrb (h:Hd)(l:List UInt8)(b:l.length<=236):(Yn h l).length=252:=by simp[Yn,q6c];omega
theorem q76 (h:Hd)(l:List UInt8)(b:l.length<=236):(Zr h l).length=256:=by simp[Zr,qrb h l b,Yl]
def zrs (n:Nat):List UInt8:=List.replicate n 0
theorem q77 {P:Program}{t e:TypeId}(w:World)(T:Y0 P t e){d:Array Oper}{b:List Oper}{o:Oper}{a:Act}{Q:Exit->Act->World->Prop}
  (u:o.guard=none) (l c:Operand) (f:o.op=Op.makeSlice t l c) (m kc:IntKind) (n:Nat) (A:a.eval l=.int m (n:Int)) (B:a.eval c=.int kc (n:Int)) (p:n<=281474976710656)
  (y:∀w',Own w' w.1.size e (some ⟨w.1.size,0,none⟩) n n (zrs n)->Below w.1.size w w'->wpList P d Q b (a.put o.dst (.slice (some ⟨w.1.size,0,none⟩) n n)) w') :
  wpList P d Q (o::b) a w:=qf1 w T u l c f m kc n A B p y
theorem qd7 {α:Type}(X Y Z C:List α)(k:Nat)(b:X.length=k)(h:Y.length=C.length):splice (X++(Y++Z)) k C=X++(C++Z):=by
 subst b;unfold splice;have e:(X++(Y++Z)).drop (X.length+Y.length)=Z:=by rw[<-List.append_assoc];exact List.drop_left' (by simp)
 rw[List.take_left' rfl,<-h,e]
theorem Qb6 (h:Hd)(l:List UInt8)(f:l.length<=236):splice (splice (zrs 256) 4 (hdB h)) 20 l=List.replicate 4 0++Yn h l:=by
 have e:(zrs 256)=List.replicate 4 0++(List.replicate 11 0++List.replicate 241 0):=by
  unfold zrs;simp only[List.replicate_append_replicate]
 have d:List.replicate 241 (0:UInt8)=List.replicate 5 0++(List.replicate l.length 0++List.replicate (236-l.length) 0):=by
  simp only[List.replicate_append_replicate];congr 1;omega
 rw[e,qd7 _ _ _ _ 4 (by simp) (by simp[q6c]),d];have b:List.replicate 4 (0:UInt8)++(hdB h++(List.replicate 5 0++(List.replicate l.length 0++List.replicate (236-l.length) 0)))=(List.replicate 4 0++(hdB h++List.replicate 5 0))++(List.replicate l.length 0++List.replicate (236-l.length) 0):=by simp
 rw[b,qd7 _ _ _ _ 20 (by simp[q6c]) (by simp)];unfold Yn;simp
theorem Qcp (h:Hd)(l:List UInt8)(b:l.length<=236):splice (splice (splice (zrs 256) 4 (hdB h)) 20 l) 0 (Ut (splice (splice (zrs 256) 4 (hdB h)) 20 l))=Zr h l:=by
 rw[Qb6 h l b];unfold Ut Zr splice;have e:(List.replicate 4 (0:UInt8)++Yn h l).drop 4=Yn h l:=List.drop_left' (by simp);rw[e,Yl];simp
theorem qug (l:List UInt8):(Ut l).length=4:=by simp[Ut,Yl]
theorem q55 (w:World)(base:Nat)(e:TypeId):Own w base e none 0 0 []:=⟨by simp,.inl ⟨rfl,rfl⟩⟩
theorem q5u (h:Hd)(A:Option Addr)(n c:Nat)(l:List UInt8)(w:World)(K:Sl w A n c l)(Z:Tab w) :
  Calls Tryz.prog 84 #[.agg #[.int .i64 h.kind,.int .i64 h.addr,.int .i64 h.count,.int .i64 h.level,.int .i64 h.gen],.slice A n c] w λe w'=>
   ∃A' n' c',e=.returned (.tuple #[.slice A' n' c',.int .i64 (Xi h l)])/\Own w' w.1.size 5 A' n' c' (Xo h l)/\(Xi h l=0->∃g,A'=some ⟨g,0,none⟩/\n'=256/\c'=256)/\Below w.1.size w w':=by
 have b6:=K.len;have b7:=K.cap;have hm:=K.max;unfold maxLen at hm;by_cases d:h.ok=true
 ·by_cases I:l.length<=236
  ·have T:Xi h l=0:=by unfold Xi;rw[if_pos d,if_pos I]
   have U:Xo h l=Zr h l:=by unfold Xo;rw[if_pos d,if_pos I]
   rw[T,U];have hn:¬(236:Int)<(n:Int):=by omega
   go_enter Tryz.func84,Tryz.ntmps84
   go_wp2_with (first
    |(go_at_call 123;refine (q3u h _).mono ?_;rw[d];rintro e J ⟨rfl,f⟩)
    |(at_make;refine q77 _ Gy rfl _ _ rfl _ _ 256 rfl rfl (by omega) ?_)
    |fail)
   intro p m u;have H:HB p w.1.size h:=(HB.below ⟨_,heap_alloc_new w _⟩ f (by simp)).below u (by have:=f.size;rw[World.size_alloc] at this;omega);have b4:=f.size;have b9:=u.size;rw[World.size_alloc] at b4;have F:Below w.1.size w p:=(Qm).trans ((f.mono (by simp)).trans (u.mono (by omega)));have a7:=K.below F;have b2:=Z.below F Z.1;have m:=m.less (show w.1.size<=J.1.size by omega);have L2:=Qb6 h l I;have L3:=Qcp h l I;have hh:=q6c h;have r0:p.cell? ⟨w.1.size,0,none⟩=some (.int .i64 h.kind):=H.at_ 0;have r1:p.cell? ⟨w.1.size,1,none⟩=some (.int .i64 h.addr):=H.at_ 2;have r2:p.cell? ⟨w.1.size,2,none⟩=some (.int .i64 h.count):=H.at_ 3;have r3:p.cell? ⟨w.1.size,3,none⟩=some (.int .i64 h.level):=H.at_ 1;have r4:p.cell? ⟨w.1.size,4,none⟩=some (.int .i64 h.gen):=H.at_ 4;clear f u H;go_wp2_with fail
   have hS:∀w':World,Below (w.1.size+1) p w'->w'.cell? ⟨w.1.size,0,none⟩=some (.int .i64 h.kind)/\w'.cell? ⟨w.1.size,1,none⟩=some (.int .i64 h.addr)/\w'.cell? ⟨w.1.size,2,none⟩=some (.int .i64 h.count)/\
    w'.cell? ⟨w.1.size,3,none⟩=some (.int .i64 h.level)/\w'.cell? ⟨w.1.size,4,none⟩=some (.int .i64 h.gen)/\Below (w.1.size+1) p w':=λw' b=>
    ⟨(b.cell (by show w.1.size<_;omega)).trans r0,(b.cell (by show w.1.size<_;omega)).trans r1,(b.cell (by show w.1.size<_;omega)).trans r2,(b.cell (by show w.1.size<_;omega)).trans r3,(b.cell (by show w.1.size<_;omega)).trans r4,b⟩
   have BD:Below (w.1.size+1) p p.drew:=(Below.refl _ _).drew;go_region_held3 (λw'=>w'.cell? ⟨w.1.size,0,none⟩=some (.int .i64 h.kind)/\w'.cell? ⟨w.1.size,1,none⟩=some (.int .i64 h.addr)/\w'.cell? ⟨w.1.size,2,none⟩=some (.int .i64 h.count)/\
    w'.cell? ⟨w.1.size,3,none⟩=some (.int .i64 h.level)/\w'.cell? ⟨w.1.size,4,none⟩=some (.int .i64 h.gen)/\Below (w.1.size+1) p w')
    (first|assumption|exact hS _ BD|exact hS _ ‹Below (w.1.size+1) p _›)
    (first
     |(go_at_call 124;refine (qmz h _).mono ?_;rintro e w4 ⟨A4,n4,c4,rfl,W,R⟩;have c6:=W.len;have a1:Below (w.1.size+1) p w4:=BD.trans (R.mono (by show _<=p.1.size;omega));have O:=m.drew.below R)
     |(refine qij Gy rfl (.tmp 15) (.tmp 17) rfl w.1.size J.1.size 256 (zrs 256) (by assumption) 4 252 252 rfl _ _ _ (hdB h) rfl (by assumption) (by omega) (by omega) ?_;intro w5 X b5;have b0:Below (w.1.size+1) p w5:=a1.trans (b5.mono (by omega)))
     |fail)
   have Q:Below w.1.size w w5:=F.trans (b0.mono (by omega));have a6:=K.below Q;clear a7 b2 W O m r0 r1 r2 r3 r4 hS BD;go_wp2_with (first
    |((with_reducible show wpList _ _ _ _ _ _);refine qb6 Gy rfl (.tmp 20) (.tmp 21) rfl w.1.size J.1.size 256 _ X 20 236 236 rfl A n c l rfl a6 (by omega) (by omega) ?_;intro w6 B b3;have G:=Q.trans b3;have a8:=Z.below G Z.1)
    |(go_at_call 125;refine (q87 _ 256 256 _ _ B.sl (by omega) a8).mono ?_;rintro e w7 ⟨A7,n7,c7,rfl,D,M⟩;have b8:n7<=4:=(by have h7:=D.len;rw[qug] at h7;omega);have E:=B.below M)
    |((with_reducible show wpList _ _ _ _ _ _);refine qb6 Gy rfl (.tmp 23) (.tmp 25) rfl w.1.size J.1.size 256 _ E 0 256 256 rfl A7 n7 c7 _ rfl D.sl (by omega) (by omega) ?_;intro w8 y b1;have a2:=G.trans ((M.mono (Below.size G)).trans b1))
    |fail)
   go_ret2;rw[L3] at y;exact⟨_,_,_,rfl,y,λ_=>⟨_,rfl,rfl,rfl⟩,a2⟩
  ·have T:Xi h l=7:=by unfold Xi;rw[if_pos d,if_neg I]
   have U:Xo h l=[]:=by unfold Xo;rw[if_pos d,if_neg I]
   rw[T,U];have hn:(236:Int)<(n:Int):=by omega
   go_enter Tryz.func84,Tryz.ntmps84
   go_wp2_with (first
    |(go_at_call 123;refine (q3u h _).mono ?_;rw[d];rintro e J ⟨rfl,f⟩))
   go_ret2;exact⟨_,_,_,rfl,q55 _ _ _,λh=>by omega,(Qm).trans (f.mono (by simp))⟩
 ·have Y:h.ok=false:=by simpa using d
  have T:Xi h l=1:=by unfold Xi;rw[if_neg d]
  have U:Xo h l=[]:=by unfold Xo;rw[if_neg d]
  rw[T,U];go_enter Tryz.func84,Tryz.ntmps84
  go_wp2_with (first
   |(go_at_call 123;refine (q3u h _).mono ?_;rw[Y];rintro e J ⟨rfl,f⟩))
  go_ret2;exact⟨_,_,_,rfl,q55 _ _ _,λh=>by omega,(Qm).trans (f.mono (by simp))⟩
theorem q0u {m:Func}{p a b:Tmp}{ty:TypeId}{f:Addr}{v:Value}{P:Program}{w:World}{d:Array Value}(h:m.results=#[.cell p ty,.tmp a,.tmp b])(y:d.getD p undef=.pointer (some f))(B:(loadVar ty f).run P w=.ok v w) :
  (results m d).run P w=.ok (.tuple #[v,d.getD a undef,d.getD b undef]) w:=by
 have e:(results m d).run P w=((asAddr (d.getD p undef)).run P w).andThen λf u=>((loadVar ty f).run P u).andThen λv A=>.ok (.tuple #[v,d.getD a undef,d.getD b undef]) A:=by
  simp only[results,h];simp[Sem.run_bind,Result.andThen]
 rw[e,y];simp[asAddr,B]
theorem q88 {w:World}{b:Nat}{h:Hd}(d:w.rangeAt b 0 h.vs):(loadVar 150 ⟨b,0,none⟩).run Tryz.prog w=.ok h.v w:=
 run_loadVar_mid w b 0 150 h.vs _ d Tryz.underlying150 rfl (by kernel_rfl)
theorem Pg {w:World}{A:Option Addr}{n c:Nat}{l:List UInt8}(h:Sl w A n c l):(convert 31 9 (.slice A n c)).run Tryz.prog w=.ok (.string ⟨l.toArray⟩) w:=
 q64 _ _ _ Gy Tryz.underlying5 Tryz.underlying9 h
def okB (l:List UInt8):Bool:=decide (l.length=256/\l.take 4=Ut l/\(G6 ((l.drop 4).take 11)).ok=true/\Y3 ((l.drop 15).take 5)=true)
def Yq (l:List UInt8):Hd:=if okB l=true then G6 ((l.drop 4).take 11) else Hd.zero
def Un (l:List UInt8):List UInt8:=if okB l=true then l.drop 20 else []
def Na (l:List UInt8):Int:=if okB l=true then 0 else 3
theorem q89 {f:Array Oper}{d:List Oper}{o:Oper}{a:Act}{w:World}{Q:Exit->Act->World->Prop}(p:o.guard=none)(x:Operand)(m:o.op=Op.load 150 x)
  (b:Nat) (y:a.eval x=.pointer (some ⟨b,0,none⟩)) (h:Hd) (H:w.rangeAt b 0 h.vs) (u:wpList Tryz.prog f Q d (a.put o.dst h.v) w):wpList Tryz.prog f Q (o::d) a w:=
 wpList_load_mid p _ x m b 0 y h.vs _ H Tryz.underlying150 rfl (by kernel_rfl) u
theorem q4d {w w':World}{b:Nat}{vs:List Value}(h:w.rangeAt b 0 vs){B:Nat}(m:Below B w w')(d:b<B):w'.rangeAt b 0 vs:=λj v f=>(m.cell (p:=⟨b,0+j,none⟩) d).trans (h j v f)
theorem qwy (n:Nat):(zrs n).length=n:=List.length_replicate
theorem qn0 (L C:List UInt8)(h:L.length=C.length):splice L 0 C=C:=by
 unfold splice;rw[List.take_zero,List.nil_append,List.drop_of_length_le (by omega),List.append_nil]
theorem Lp {w b d:World}{H:Hd}{o:Obj}(m:d.rangeAt b.1.size 0 H.vs)(f:∀B,B<=b.1.size->Below B (b.alloc o) d)(y:HB b w.1.size Hd.zero)(p:Below w.1.size w b)(u:w.1.size<b.1.size) :
  d.rangeAt b.1.size 0 H.vs/\Below w.1.size w d/\HB d w.1.size Hd.zero/\b.1.size<d.1.size:=by
 have h1:Below b.1.size b d:=((Below.refl _ _).alloc (Nat.le_refl _) o).trans (f _ (Nat.le_refl _));have h2:=(f _ (Nat.le_refl _)).size;rw[World.size_alloc] at h2;exact⟨m,p.trans (h1.mono (by omega)),y.below h1 u,by omega⟩
theorem cuts {w:World}{d:Addr}{c:Nat}{l:List UInt8}(b:Sl w (some d) 256 c l):Sl w (some (d.add 15)) 5 (c-15) ((l.drop 15).take 5)/\Sl w (some (d.add 20)) 236 (c-20) (l.drop 20):=by
 have f:=b.cap;have h1:=(b.drop (k:=15) (by omega)).take (k:=5) (by omega);have h2:=b.drop (k:=20) (by omega);rw[if_neg (by omega)] at h1 h2;exact⟨h1,h2⟩
def q21 (A:Option Addr)(n c:Nat)(l:List UInt8)(w:World):Prop:=
  Calls Tryz.prog 97 #[.slice A n c] w λe w'=>
   ∃d b f,e=.returned (.tuple #[(Yq l).v,.slice d b f,.int .i64 (Na l)])/\Own w' w.1.size 5 d b f (Un l)/\Below w.1.size w w'
theorem qik {l:List UInt8}(h:okB l=false):Yq l=Hd.zero/\Un l=[]/\Na l=3:=by
 unfold Yq Un Na;rw[h];exact⟨rfl,rfl,rfl⟩
theorem q78 {l:List UInt8}(h:okB l=true):Yq l=G6 ((l.drop 4).take 11)/\Un l=l.drop 20/\Na l=0:=by
 unfold Yq Un Na;rw[h];exact⟨rfl,rfl,rfl⟩
theorem qwz (ad:Addr)(c:Nat)(l:List UInt8)(w:World)(hs:Sl w (some ad) 256 c l)(ht:Tab w)(b3:l.take 4=Ut l):q21 (some ad) 256 c l w:=by
 unfold q21;have a2:=hs.len;have d3:=hs.cap;have hm:=hs.max;unfold maxLen at hm;have HZ:=HB.zero w 150;have M:Below w.1.size w (w.alloc (.cells #[.int .i64 0,.int .i64 0,.int .i64 0,.int .i64 0,.int .i64 0] 150)):=Qm;have b9:w.1.size<(w.alloc (.cells #[.int .i64 0,.int .i64 0,.int .i64 0,.int .i64 0,.int .i64 0] 150)).1.size:=by simp
 obtain⟨H,hH⟩:∃H,G6 ((l.drop 4).take 11)=H:=⟨_,rfl⟩;have b5:=congrArg (λx:List UInt8=>(⟨x.toArray⟩:ByteArray)) b3;obtain⟨S1,hS⟩:∃S1,(⟨(Ut l).toArray⟩:ByteArray)=S1:=⟨_,rfl⟩;have b6:(⟨(l.take 4).toArray⟩:ByteArray)=S1:=b5.trans hS;clear b5;go_enter Tryz.func97,Tryz.ntmps97
 go_wp2;generalize (w.alloc (.cells #[.int .i64 0,.int .i64 0,.int .i64 0,.int .i64 0,.int .i64 0] 150))=w1 at HZ M b9 ⊢;have F:=hs.below M;have d0:=ht.below M ht.1;have k1:=Pg (F.take (k:=4) (by omega)).drew;rw[b6] at k1;go_region_with (first
  |(go_at_call 125;refine (q87 _ 256 c l _ F.drew (by omega) d0).mono ?_;rintro e w3 ⟨A3,n3,c3,rfl,a1,b1⟩;have u:Below w1.1.size w1 w3:=Below.trans (Below.refl _ w1).drew b1;have k2:=Pg ((F.below u).take (k:=4) (by omega));have k3:=Pg a1.sl;rw[b6] at k2;rw[hS] at k3)
  |fail)
 all_goals
  have a6:=HZ.below u b9;have d5:=u.size;have c8:=F.below u;have B:=M.trans (u.mono M.size);have Y:=(c8.drop (k:=4) (by omega)).take (k:=11) (by omega);rw[if_neg (show ¬c=4 by omega)] at Y;clear k1 k2 k3 a1 b1 F HZ
  cases I:H.ok
  ·have a7:okB l=false:=decide_eq_false (λh=>by have:=h.2.2.1;rw[hH,I] at this;cases this);go_wp2_with (first
    |(go_at_call 133;refine (q54 _ (c-4) _ _ Y).mono ?_;rw[hH];rintro e X ⟨rfl,f⟩;have J:=a6.below f (by omega);have b7:=f.size)
    |(refine Pz rfl (.tmp 5) (.tmp 22) rfl X.1.size rfl H _ rfl (HB.zero X _) (by simp) ?_;intro w6 G Q _;obtain⟨d,y,W,R⟩:=Lp G Q J (B.trans (f.mono B.size)) (by omega))
    |(refine q89 rfl (.tmp 5) rfl X.1.size rfl H (by first|exact d|assumption) ?_)
    |(go_at_call 123;refine (q3u H _).mono ?_;rw[I];rintro e w7 ⟨rfl,b⟩;have K:=W.below b (by omega);have m:=y.trans (b.mono y.size);have a8:=q4d d b R;have c6:=b.size;have E:=hs.below m;obtain⟨A,D⟩:=cuts E)
    |(refine Pz rfl (.tmp 2) (.tmp 32) rfl w.1.size rfl Hd.zero _ rfl K (by omega) ?_;intro wz O U Tz)
    |fail)
   refine bodyPost_ret (q0u Tryz.results97 rfl (q88 O)) rfl ?_;obtain⟨h1,h2,h3⟩:=qik (l:=l) a7;rw[h1,h2,h3];exact⟨_,_,_,rfl,q55 _ _ _,m.trans (U _ (Nat.le_refl _))⟩
  ·cases Z:Y3 ((l.drop 15).take 5)
   ·have a7:okB l=false:=decide_eq_false (λh=>by have:=h.2.2.2;rw[Z] at this;cases this);go_wp2_with (first
     |(go_at_call 133;refine (q54 _ (c-4) _ _ Y).mono ?_;rw[hH];rintro e X ⟨rfl,f⟩;have J:=a6.below f (by omega);have b7:=f.size)
     |(refine Pz rfl (.tmp 5) (.tmp 22) rfl X.1.size rfl H _ rfl (HB.zero X _) (by simp) ?_;intro w6 G Q _;obtain⟨d,y,W,R⟩:=Lp G Q J (B.trans (f.mono B.size)) (by omega))
     |(refine q89 rfl (.tmp 5) rfl X.1.size rfl H (by first|exact d|assumption) ?_)
     |(go_at_call 123;refine (q3u H _).mono ?_;rw[I];rintro e w7 ⟨rfl,b⟩;have K:=W.below b (by omega);have m:=y.trans (b.mono y.size);have a8:=q4d d b R;have c6:=b.size;have E:=hs.below m;obtain⟨A,D⟩:=cuts E)
     |(go_at_call 134;refine (qb7 _ 5 (c-15) _ w7 A).mono ?_;rw[Z];rintro e w8 ⟨rfl,rfl⟩)
     |(refine Pz rfl (.tmp 2) (.tmp 32) rfl w.1.size rfl Hd.zero _ rfl K (by omega) ?_;intro wz O U Tz)
     |fail)
    refine bodyPost_ret (q0u Tryz.results97 rfl (q88 O)) rfl ?_;obtain⟨h1,h2,h3⟩:=qik (l:=l) a7;rw[h1,h2,h3];exact⟨_,_,_,rfl,q55 _ _ _,m.trans (U _ (Nat.le_refl _))⟩
   ·have c7:okB l=true:=decide_eq_true ⟨a2,b3,by rw[hH];exact I,Z⟩;go_wp2_with (first
     |(go_at_call 133;refine (q54 _ (c-4) _ _ Y).mono ?_;rw[hH];rintro e X ⟨rfl,f⟩;have J:=a6.below f (by omega);have b7:=f.size)
     |(refine Pz rfl (.tmp 5) (.tmp 22) rfl X.1.size rfl H _ rfl (HB.zero X _) (by simp) ?_;intro w6 G Q _;obtain⟨d,y,W,R⟩:=Lp G Q J (B.trans (f.mono B.size)) (by omega))
     |(refine q89 rfl (.tmp 5) rfl X.1.size rfl H (by first|exact d|assumption) ?_)
     |(go_at_call 123;refine (q3u H _).mono ?_;rw[I];rintro e w7 ⟨rfl,b⟩;have K:=W.below b (by omega);have m:=y.trans (b.mono y.size);have a8:=q4d d b R;have c6:=b.size;have E:=hs.below m;obtain⟨A,D⟩:=cuts E)
     |(go_at_call 134;refine (qb7 _ 5 (c-15) _ w7 A).mono ?_;rw[Z];rintro e w8 ⟨rfl,rfl⟩)
     |(at_make;refine q77 _ Gy rfl _ _ rfl _ _ 236 rfl rfl (by omega) ?_;intro w9 b0 b4;have c9:=Sl.below D b4)
     |((with_reducible show wpList _ _ _ _ _ _);refine qb6 Gy rfl (.tmp 34) (.tmp 36) rfl w7.1.size w7.1.size 236 _ b0 0 236 236 rfl _ 236 (c-20) _ rfl c9 (by omega) (by omega) ?_;intro d4 T b8;have p:=b4.trans b8;have b2:=K.below p (by omega);have d1:=q4d a8 p (by omega);have d2:=p.size)
     |(refine Pz rfl (.tmp 2) (.tmp 38) rfl w.1.size rfl H _ rfl b2 (by omega) ?_;intro wz O U Tz)
     |fail)
    refine bodyPost_ret (q0u Tryz.results97 rfl (q88 O)) rfl ?_;obtain⟨h1,h2,h3⟩:=q78 (l:=l) c7;rw[h1,h2,h3,hH];rw[qn0 _ _ (by rw[qwy,List.length_drop,a2])] at T;exact⟨_,_,_,rfl,(T.turn λg hg hl=>Tz.block g hl (by show ¬g=w.1.size;omega)).less m.size,m.trans ((p.mono m.size).trans (U _ (Nat.le_refl _)))⟩
def cv (x:Int):Value:=.int .i64 x
theorem qy6 (l:List Int):∀u∈l.map cv,u.oneCell'=true:=by
 intro u b;obtain⟨_,_,rfl⟩:=List.mem_map.1 b;rfl
def nm (l:List Int)(k:Nat):Int:=l.getD k 0
theorem q4e (l:List Int)(k:Nat)(x:Int)(h:k<l.length):nm (l.set k x) k=x:=by simp[nm,h]
theorem q56 (l:List Int)(k j:Nat)(x:Int)(h:k≠j):nm (l.set k x) j=nm l j:=by simp[nm,h]
structure Ct where
 now:List Int
 done:List Int
 same:done.length=now.length
def Ct.n (C:Ct):Nat:=C.now.length
def Ct.first (C:Ct):Nat:=2+2*Qe C.n
def Ct.get (C:Ct)(a:Int):Int:=if 0<=a/\a<(C.n:Int) then nm C.now a.toNat else 0
def Ct.put (C:Ct)(k:Nat)(x:Int):Ct:=⟨C.now.set k x,C.done,by rw[List.length_set];exact C.same⟩
def Ct.Y8 (C:Ct)(a:Int):Int:=if C.get a=0 then 1 else if C.get a=65535 then 7 else 0
def Ct.ref (C:Ct)(a:Int):Ct:=if C.Y8 a=0 then C.put a.toNat (C.get a+1) else C
def Ct.Jz (C:Ct)(a:Int):Int:=if C.get a=0 then 1 else 0
def Ct.Ju (C:Ct)(a:Int):Int:=if C.get a=0 then 0 else C.get a-1
def Ct.Qy (C:Ct)(a:Int):Ct:=if C.get a=0 then C else C.put a.toNat (C.get a-1)
def Ct.fresh (C:Ct)(a:Int):Bool:=if C.get a=0 then false else decide (nm C.done a.toNat=0)
def Ct.U3 (C:Ct)(k:Nat):Bool:=decide (nm C.now k=0/\nm C.done k=0)
def Ct.commit (C:Ct):Ct:=⟨C.now,C.now,rfl⟩
def Ct.ok (C:Ct):Prop:=(32<=C.n/\C.n<=2048)/\∀k,k<C.n->0<=nm C.now k/\nm C.now k<=65535
theorem Ct.Jc {C:Ct}(h:C.ok)(a:Int):0<=C.get a/\C.get a<=65535:=by
 unfold Ct.get;split
 ·exact h.2 _ (by omega)
 ·omega
theorem Ct.Et {C:Ct}{a:Int}(h:¬C.get a=0):0<=a/\a<(C.n:Int)/\C.get a=nm C.now a.toNat:=by
 unfold Ct.get at h ⊢;split at h
 ·rename_i h2;rw[if_pos h2];exact⟨h2.1,h2.2,rfl⟩
 ·exact absurd rfl h
theorem Ct.Zi (C:Ct)(k:Nat)(x:Int):(C.put k x).n=C.n:=List.length_set
theorem Ct.G9 {C:Ct}(h:C.ok)(k:Nat)(x:Int)(h1:0<=x)(h2:x<=65535):(C.put k x).ok:=by
 refine⟨by rw[C.Zi];exact h.1,λj b=>?_⟩;rw[C.Zi] at b;show 0<=nm (C.now.set k x) j/\nm (C.now.set k x) j<=65535;by_cases d:k=j
 ·subst d;rw[q4e _ _ _ b];exact⟨h1,h2⟩
 ·rw[q56 _ _ _ _ d];exact h.2 j b
theorem Ct.D5 {C:Ct}(h:C.ok):C.commit.ok:=h
def J6 (w:World)(g n c:Nat)(l:List Int):Prop:=w.ownsRow 0 3 1 (.slice (some ⟨g,0,none⟩) n c) n (l.map cv)
section
variable {w w':World}{g n c:Nat}{l:List Int}
theorem J6.len (h:J6 w g n c l):l.length=n:=by have:=h.1;simpa using this
theorem J6.cap (h:J6 w g n c l):n<=c/\c<=maxLen:=by
 rcases h.2 with⟨b,_⟩|⟨p,cap,f,b,_,_,h1,h2,_⟩
 ·injection b with d;cases d
 ·injection b with d u m;omega
theorem J6.lt (h:J6 w g n c l):g<w.1.size:=by
 rcases h.2 with⟨d,_⟩|⟨p,cap,f,d,_,m,_⟩
 ·injection d with b;cases b
 ·injection d with b;injection b with b;injection b with b;subst b;exact (Array.getElem?_eq_some_iff.1 m).1
theorem J6.keep (h:J6 w g n c l)(hk:w'.1[g]?=w.1[g]?):J6 w' g n c l:=q30 h λq b=>by
 have:q=g:=by
  have:(Value.slice (some ⟨g,0,none⟩) n c).ownBlock=some g:=rfl;rw[this] at b;exact (Option.some.inj b).symm
 rw[this];exact hk
theorem J6.at_ (h:J6 w g n c l){j:Nat}(hj:j<n):w.cell? ⟨g,j,none⟩=some (.int .i64 (nm l j))/\w.frozen? ⟨g,j,none⟩=false:=by
 have b:=h.len;refine⟨?_,World.ownsRow.frozenAt h j⟩;rw[World.ownsRow.cellAt h j (by omega),List.getElem?_map,List.getElem?_eq_getElem (by omega)];unfold nm;rw[List.getD_eq_getElem?_getD,List.getElem?_eq_getElem (by omega)];rfl
theorem J6.Vr (h:J6 w g n c l)(j:Nat)(x:Int):J6 (w.setCell ⟨g,j,none⟩ (.int .i64 x)) g n c (l.set j x):=by
 unfold J6;rw[List.map_set];exact (World.ownsRow.stored h j (cv x)).1
end
def RC (w:World)(p:Nat)(S:Nat->Prop)(C:Ct):Prop:=∃(a d b f:Nat) (t:TypeId),w.1[p]?=some (.cells #[.slice (some ⟨a,0,none⟩) C.n d,.slice (some ⟨b,0,none⟩) C.n f] t (0,0))/\J6 w a C.n d C.now/\J6 w b C.n f C.done/\(a≠b/\p≠a/\p≠b)/\(S p/\S a/\S b)/\C.ok
theorem RC.ok {w:World}{p:Nat}{S:Nat->Prop}{C:Ct}(h:RC w p S C):C.ok:=by
 obtain⟨_,_,_,_,_,_,_,_,_,_,h⟩:=h;exact h
theorem RC.lt {w:World}{p:Nat}{S:Nat->Prop}{C:Ct}(h:RC w p S C):p<w.1.size:=by
 obtain⟨_,_,_,_,_,h,_⟩:=h;exact (Array.getElem?_eq_some_iff.1 h).1
theorem RC.keep {w w':World}{p:Nat}{S:Nat->Prop}{C:Ct}(h:RC w p S C)(hk:∀k,k<w.1.size->S k->w'.1[k]?=w.1[k]?):RC w' p S C:=by
 obtain⟨a,m,b,u,t,h1,h2,f,A,d,y⟩:=h;exact⟨a,m,b,u,t,(hk p (Array.getElem?_eq_some_iff.1 h1).1 d.1).trans h1,h2.keep (hk a h2.lt d.2.1),f.keep (hk b f.lt d.2.2),A,d,y⟩
theorem RC.mono {w:World}{p:Nat}{S S':Nat->Prop}{C:Ct}(h:RC w p S C)(hs:∀k,S k->S' k):RC w p S' C:=by
 obtain⟨a,f,b,m,t,h1,h2,A,y,d,u⟩:=h;exact⟨a,f,b,m,t,h1,h2,A,y,⟨hs _ d.1,hs _ d.2.1,hs _ d.2.2⟩,u⟩
theorem RC.below {w w':World}{p:Nat}{S:Nat->Prop}{C:Ct}(h:RC w p S C)(hb:Below w.1.size w w'):RC w' p S C:=h.keep λk b _=>hb.block k b
theorem RC.open_ {w:World}{p:Nat}{S:Nat->Prop}{C:Ct}(H:RC w p S C):∃g d b m:Nat,w.cell? ⟨p,0,none⟩=some (.slice (some ⟨g,0,none⟩) C.n d)/\w.cell? ⟨p,1,none⟩=some (.slice (some ⟨b,0,none⟩) C.n m)/\
  (C.n<=d/\d<=9223372036854775807)/\(C.n<=m/\m<=9223372036854775807)/\(∀k,k<C.n->w.cell? ⟨g,k,none⟩=some (.int .i64 (nm C.now k))/\w.frozen? ⟨g,k,none⟩=false)/\(∀k,k<C.n->w.cell? ⟨b,k,none⟩=some (.int .i64 (nm C.done k)))/\
  (∀(k:Nat) (x:Int),k<C.n->0<=x->x<=65535->RC (w.setCell ⟨g,k,none⟩ (.int .i64 x)) p S (C.put k x)/\Turn S w (w.setCell ⟨g,k,none⟩ (.int .i64 x))/\(w.setCell ⟨g,k,none⟩ (.int .i64 x)).cell? ⟨p,0,none⟩=some (.slice (some ⟨g,0,none⟩) C.n d)/\(w.setCell ⟨g,k,none⟩ (.int .i64 x)).cell? ⟨g,k,none⟩=some (.int .i64 x)):=by
 obtain⟨g,d,b,m,t,h1,h2,A,B,I,J⟩:=H;have D:=h2.cap;have G:=A.cap;unfold maxLen at D G;refine⟨g,d,b,m,by rw[cell_of_row _ _ _ _ _ _ h1];rfl,by rw[cell_of_row _ _ _ _ _ _ h1];rfl,⟨D.1,by omega⟩,⟨G.1,by omega⟩,λk f=>h2.at_ f,λk f=>(A.at_ f).1,λk x f u y=>?_⟩;have e:∀j,j≠g->(w.setCell ⟨g,k,none⟩ (.int .i64 x)).1[j]?=w.1[j]?:=λj K=>Below.heap_setCell _ _ _ _ (by show j≠g;exact K)
 have E:=(e p B.2.1).trans h1;have F:=h2.Vr k x;refine⟨⟨g,d,b,m,t,?_,?_,?_,B,I,C.G9 J k x u y⟩,Ez (a:=⟨g,k,none⟩) _ I.2.1,by rw[cell_of_row _ _ _ _ _ _ E];rfl,?_⟩
 ·rw[C.Zi];exact E
 ·rw[C.Zi];exact F
 ·rw[C.Zi];exact A.keep (e b (Ne.symm B.1))
 ·have:=(F.at_ f).1;rw[q4e _ _ _ (by rw[h2.len];exact f)] at this;exact this
def Ct.may (C:Ct)(j:Nat):Bool:=decide (C.first<=j)&&C.U3 j
def Ct.pick (C:Ct):Option Nat:=(List.range C.n).find? C.may
def Ct.Uf (C:Ct):Int:=match C.pick with|some _=>0|none=>6
def Ct.Uy (C:Ct):Int:=match C.pick with|some k=>(k:Int)|none=>0
def Ct.alloc (C:Ct):Ct:=match C.pick with|some k=>C.put k 1|none=>C
def Ct.Jw (C:Ct)(k:Nat):Nat:=(List.range k).countP C.may
def Ct.free (C:Ct):Nat:=C.Jw C.n
theorem Ct.O0 {C:Ct}{k:Nat}(hk:k<C.n)(h:C.may k=true)(hall:∀j,j<k->C.may j=false):C.pick=some k:=by
 unfold Ct.pick;rw[List.find?_range_eq_some];exact⟨h,List.mem_range.2 hk,λj b=>by rw[hall j b];rfl⟩
theorem Ct.Oz {C:Ct}(hall:∀j,j<C.n->C.may j=false):C.pick=none:=by
 unfold Ct.pick;rw[List.find?_eq_none];intro j b;rw[hall j (List.mem_range.1 b)];simp
theorem Ct.Xv {C:Ct}{k:Nat}(h:C.pick=some k):C.Uf=0/\C.Uy=(k:Int)/\C.alloc=C.put k 1:=by
 unfold Ct.Uf Ct.Uy Ct.alloc;rw[h];exact⟨rfl,rfl,rfl⟩
theorem Ct.Vm {C:Ct}(h:C.pick=none):C.Uf=6/\C.Uy=0/\C.alloc=C:=by
 unfold Ct.Uf Ct.Uy Ct.alloc;rw[h];exact⟨rfl,rfl,rfl⟩
theorem Ct.Ku (C:Ct)(k:Nat):C.Jw (k+1)=C.Jw k+(if C.may k=true then 1 else 0):=by
 unfold Ct.Jw;rw[List.range_succ,List.countP_append,List.countP_singleton]
theorem Ct.Ov (C:Ct)(k:Nat):C.Jw k<=k:=by
 unfold Ct.Jw;have:=List.countP_le_length (p:=C.may) (l:=List.range k);rwa [List.length_range] at this
structure Qcm (P:Program)(t e:TypeId):Prop where
 sl:P.underlying t=some (.slice e)
 info:(P.info? e).map (λi=>(i.zero,i.size,i.bytes))=some (some (.int .i64 0),1,8)
theorem TN:Qcm Tryz.prog 36 3:=⟨Tryz.underlying36,by kernel_rfl⟩
section
variable {P:Program}{t e:TypeId}(w:World)
end
theorem J6.cells {w:World}{g n c:Nat}{l:List Int}(h:J6 w g n c l):∀(j:Nat) u,(l.map cv)[j]?=some u->w.cell? ((⟨g,0,none⟩:Addr).add j)=some u:=λj u b=>by
 have d:j<n:=by have:=(List.getElem?_eq_some_iff.1 b).1;rw[List.length_map,h.len] at this;exact this
 rw[Addr.add_mid,Nat.zero_add,World.ownsRow.cellAt h j (by omega),b]
def Ct.zero (n:Nat):Ct:=⟨List.replicate n 0,List.replicate n 0,rfl⟩
theorem Ct.Q9 (n:Nat):(Ct.zero n).n=n:=List.length_replicate
theorem Ct.Ba {n:Nat}(h1:32<=n)(h2:n<=2048):(Ct.zero n).ok:=by
 refine⟨by rw[Ct.Q9];exact⟨h1,h2⟩,λk b=>?_⟩;rw[Ct.Q9] at b;show 0<=nm (List.replicate n 0) k/\nm (List.replicate n 0) k<=65535;unfold nm;simp[b]
section
variable {P:Program}{t e:TypeId}(w:World)
theorem quh (n:Nat):(madeCells (Value.int .i64 0).cells (n*1)).toList=(List.replicate n (0:Int)).map cv:=by
 rw[show (Value.int .i64 0).cells=#[.int .i64 0] from rfl,Nat.mul_one,toList_madeCells_one];simp[cv]
end
def mkI (a b:Value):Sem Value:=Instr.makeSlice 36 a b
theorem qky (a b:Value):Instr.makeSlice 36 a b=mkI a b:=rfl
def Ua (n:Nat)(w:World):World:=w.alloc (.cells (madeCells #[.int .i64 0] (n*1)) 3)
theorem qrc (n:Nat)(hn:n<=1000000)(w:World):(mkI (.int .i64 (n:Int)) (.int .i64 (n:Int))).run Tryz.prog w=.ok (.slice (some ⟨w.1.size,0,none⟩) n n) (Ua n w):=by
 obtain⟨i,m,f,b,d⟩:=info_parts TN.info;have h:=run_makeSlice (P:=Tryz.prog) w 36 3 i _ TN.sl m f .i64 .i64 n n (by omega) (by omega) (by rw[b,Int.toNat_natCast];omega) (by rw[d];omega) (by omega);rw[b] at h;exact h
theorem qkz (n:Nat)(hn:n<=1000000)(w:World):J6 (Ua n w) w.1.size n n (List.replicate n 0):=by
 have hm:(madeCells #[.int .i64 0] (n*1)).toList=(List.replicate n (0:Int)).map cv:=quh n;have b:=congrArg List.length hm;rw[Array.length_toList,List.length_map,List.length_replicate] at b;refine⟨by rw[List.length_map,List.length_replicate,Nat.mul_one],.inr ⟨w.1.size,n,_,rfl,Nat.zero_le _,heap_alloc_new w _,Nat.le_refl _,by unfold maxLen;omega,by rw[b,Nat.mul_one],?_⟩⟩;rw[hm,List.take_of_length_le (by rw[List.length_map,List.length_replicate,Nat.mul_one];exact Nat.le_refl _)]
theorem qd8 (n base:Nat)(w:World)(h:base<=w.1.size):Below base w (Ua n w):=(Below.refl _ _).alloc h _
theorem q3w (n:Nat)(w:World):(Ua n w).1.size=w.1.size+1:=by simp[Ua]
section
attribute [local go_sem ↓] qky
end
def Ct.Zz (C:Ct)(m:Int):Nat->List UInt8
 |0=>[]
 |k+1=>C.Zz m k++Zc (C.get (m+(k:Int))) 2
theorem Ct.Xa (C:Ct)(m:Int)(k:Nat):(C.Zz m k).length=2*k:=by
 induction k with
 |zero=>rfl
 |succ k ih=>show (C.Zz m k++Zc _ 2).length=_;rw[List.length_append,ih,Yl];omega
def Ct.body (C:Ct)(i:Int):List UInt8:=if 0<=i/\i<(Qe C.n:Int) then C.Zz (i*118) 118 else []
section
def F7 (l:List UInt8)(k:Nat):Int:=Q8 ((l.drop (2*k)).take 2)
def Yy (n f i:Nat)(l:List UInt8)(k:Nat):Bool:=decide (F7 l k≠0/\(i*118+k<f\/n<=i*118+k))
def Yo (n i:Nat)(l:List UInt8)(C:Ct):Nat->Ct
 |0=>C
 |k+1=>if i*118+k<n then (Yo n i l C k).put (i*118+k) (F7 l k) else Yo n i l C k
def q57 (n f i:Nat)(l:List UInt8):Prop:=l.length=236/\∀k,k<118->Yy n f i l k=false
def Y2 (n:Nat)(b:List (List UInt8)):Nat->Ct
 |0=>Ct.zero n
 |i+1=>Yo n i (nth b i) (Y2 n b i) 118
open Classical in
noncomputable def Xf (n:Int) (b:List (List UInt8)):Int:=if ¬(32<=n/\n<=2048) then 1 else if b.length≠Qe n.toNat\/¬∀i,i<Qe n.toNat->q57 n.toNat (2+2*Qe n.toNat) i (nth b i) then 3 else 0
def Vu (n:Nat)(b:List (List UInt8)):Ct:=(Y2 n b (Qe n)).commit
theorem qil (n i:Nat)(l:List UInt8)(C:Ct)(k:Nat):(Yo n i l C k).n=C.n:=by
 induction k with
 |zero=>rfl
 |succ k ih=>unfold Yo;split;rw[Ct.Zi,ih];exact ih
theorem qb8 (n:Nat)(b:List (List UInt8))(i:Nat):(Y2 n b i).n=n:=by
 induction i with
 |zero=>exact Ct.Q9 n
 |succ i ih=>exact (qil _ _ _ _ _).trans ih
end
theorem qim (C:Ct)(m:Int)(n k:Nat)(h:k<n):((C.Zz m n).drop (2*k)).take 2=Zc (C.get (m+(k:Int))) 2:=by
 induction n with
 |zero=>omega
 |succ n ih=>
  show ((C.Zz m n++Zc (C.get (m+(n:Int))) 2).drop (2*k)).take 2=_;by_cases b:k<n
  ·rw[List.drop_append_of_le_length (by rw[C.Xa];omega),List.take_append_of_le_length (by rw[List.length_drop,C.Xa];omega)];exact ih b
  ·obtain rfl:k=n:=by omega
   rw[List.drop_append,List.drop_eq_nil_of_le (by rw[C.Xa];omega),C.Xa,Nat.sub_self,List.nil_append,List.drop_zero,List.take_of_length_le (by rw[Yl];omega)]
theorem Ct.Sz {C:Ct}(h:C.ok){i k:Nat}(hi:i<Qe C.n)(hk:k<118):F7 (C.body (i:Int)) k=C.get ((i:Int)*118+(k:Int)):=by
 have b:C.body (i:Int)=C.Zz ((i:Int)*118) 118:=by unfold Ct.body;rw[if_pos ⟨by omega,by omega⟩]
 unfold F7;rw[b,qim C _ 118 k hk];have h1:=C.Jc h ((i:Int)*118+(k:Int));exact q8y _ 2 h1.1 (by have:=h1.2;simp;omega)
theorem Ct.Ug {C:Ct}{i:Nat}(hi:i<Qe C.n):(C.body (i:Int)).length=236:=by
 unfold Ct.body;rw[if_pos ⟨by omega,by omega⟩,C.Xa]
theorem q6d (C:Ct)(k:Nat)(x:Int)(a:Nat)(b:a<C.n):nm (C.put k x).now a=if a=k then x else nm C.now a:=by
 show nm (C.now.set k x) a=_;by_cases h:a=k
 ·subst h;rw[if_pos rfl,q4e _ _ _ b]
 ·rw[if_neg h,q56 _ _ _ _ (λe=>h e.symm)]
theorem qh3 (i:Nat)(l:List UInt8)(C:Ct)(k a:Nat)(d:a<C.n):nm (Yo C.n i l C k).now a=if i*118<=a/\a<i*118+k then F7 l (a-i*118) else nm C.now a:=by
 induction k with
 |zero=>rw[if_neg (by omega)];rfl
 |succ k ih=>
  unfold Yo;by_cases b:i*118+k<C.n
  ·rw[if_pos b,q6d _ _ _ _ (by rw[qil];exact d),ih];by_cases e:a=i*118+k
   ·rw[if_pos e,if_pos (by omega),show a-i*118=k by omega]
   ·rw[if_neg e];by_cases h2:i*118<=a/\a<i*118+k
    ·rw[if_pos h2,if_pos (by omega)]
    ·rw[if_neg h2,if_neg (by omega)]
  ·rw[if_neg b,ih];by_cases h2:i*118<=a/\a<i*118+k
   ·rw[if_pos h2,if_pos (by omega)]
   ·rw[if_neg h2,if_neg (by omega)]
theorem qb9 (n:Nat)(b:List (List UInt8))(i a:Nat)(d:a<n):nm (Y2 n b i).now a=if a<i*118 then F7 (nth b (a / 118)) (a % 118) else 0:=by
 induction i with
 |zero=>
  rw[if_neg (by omega)];show nm (List.replicate n 0) a=0;unfold nm;simp[d]
 |succ i ih=>
  have h:=qh3 i (nth b i) (Y2 n b i) 118 a (by rw[qb8];exact d);rw[qb8,ih] at h;refine (show nm (Y2 n b (i+1)).now a=_ from h).trans ?_;by_cases h1:i*118<=a/\a<i*118+118
  ·rw[if_pos h1,if_pos (by omega),show a / 118=i by omega,show a % 118=a-i*118 by omega]
  ·rw[if_neg h1];by_cases h2:a<i*118
   ·rw[if_pos h2,if_pos (by omega)]
   ·rw[if_neg h2,if_neg (by omega)]
def Ct.res (C:Ct):Prop:=∀a,a<C.n->a<C.first->nm C.now a=0
def Ct.bodies (C:Ct):List (List UInt8):=(List.range (Qe C.n)).map λ(i:Nat)=>C.body (i:Int)
theorem Ct.Dz (C:Ct){i:Nat}(h:i<Qe C.n):nth C.bodies i=C.body (i:Int):=by
 unfold nth Ct.bodies;rw[List.getD_eq_getElem?_getD,List.getElem?_map,List.getElem?_range h];rfl
theorem Ct.Oo {C:Ct}(h:C.ok)(hr:C.res){i:Nat}(hi:i<Qe C.n):q57 C.n (2+2*Qe C.n) i (nth C.bodies i):=by
 rw[C.Dz hi];refine⟨Ct.Ug hi,λk b=>?_⟩;unfold Yy;rw[Ct.Sz h hi b];refine decide_eq_false ?_;rintro⟨h1,h2⟩;refine h1 ?_;unfold Ct.get;split
 ·rename_i d;have e:((i:Int)*118+(k:Int)).toNat=i*118+k:=by omega
  rw[e];rcases h2 with h2|h2
  ·exact hr _ (by omega) h2
  ·omega
 ·rfl
theorem Ct.Lr {C:Ct}(h:C.ok)(hr:C.res):Xf (C.n:Int) C.bodies=0/\Vu C.n C.bodies=C.commit:=by
 have B:C.bodies.length=Qe C.n:=by unfold Ct.bodies;rw[List.length_map,List.length_range]
 constructor
 ·unfold Xf;rw[Int.toNat_natCast,if_neg (λe=>e (by have:=h.1;omega)),if_neg];rintro (e|e)
  ·exact e B
  ·exact e λi y=>Ct.Oo h hr y
 ·have f:(Y2 C.n C.bodies (Qe C.n)).now=C.now:=by
   have h1:(Y2 C.n C.bodies (Qe C.n)).now.length=C.now.length:=qb8 _ _ _;refine List.ext_getElem h1 λa p m=>?_
   have u:a<C.n:=m;have b:=qb9 C.n C.bodies (Qe C.n) a u;have d:a / 118<Qe C.n:=by unfold Qe;omega
   rw[if_pos (by unfold Qe;omega),C.Dz d,Ct.Sz h d (Nat.mod_lt _ (by omega))] at b;have A:((a / 118:Nat):Int)*118+((a % 118:Nat):Int)=(a:Int):=by omega
   rw[A] at b;unfold Ct.get at b;rw[if_pos ⟨by omega,by omega⟩,Int.toNat_natCast] at b;unfold nm at b;simpa [p,m] using b
  unfold Vu Ct.commit;simp only[f]
theorem Ct.Bj {C D:Ct}(h:D.n=C.n):D.first=C.first:=by unfold Ct.first;rw[h]
theorem Ct.Au {C:Ct}(h:C.res){k:Nat}(x:Int)(hk:C.first<=k):(C.put k x).res:=λa b d=>by
 rw[C.Zi] at b;rw[Ct.Bj (C.Zi k x)] at d;rw[q6d C k x a b,if_neg (by omega)];exact h a b d
theorem Ct.Kw {C:Ct}(h:C.res){a:Int}(hg:¬C.get a=0):0<=a/\a<(C.n:Int)/\C.first<=a.toNat:=by
 obtain⟨h1,h2,d⟩:=Ct.Et hg;refine⟨h1,h2,?_⟩;rcases Nat.lt_or_ge a.toNat C.first with b|b
 ·exact absurd (d.trans (h a.toNat (by omega) b)) hg
 ·exact b
theorem Ct.Xk {C:Ct}{k:Nat}(h:C.pick=some k):k<C.n/\C.first<=k/\nm C.now k=0/\nm C.done k=0/\∀j,j<k->C.may j=false:=by
 unfold Ct.pick at h;rw[List.find?_range_eq_some] at h;obtain⟨h1,h2,b⟩:=h;unfold Ct.may Ct.U3 at h1;rw[Bool.and_eq_true,decide_eq_true_iff,decide_eq_true_iff] at h1;exact⟨List.mem_range.1 h2,h1.1,h1.2.1,h1.2.2,λj d=>by have:=b j d;simpa using this⟩
theorem Ct.Qad {C:Ct}(h:C.pick=none):∀j,j<C.n->C.may j=false:=λj b=>by
 unfold Ct.pick at h;rw[List.find?_eq_none] at h;have:=h j (List.mem_range.2 b);simpa using this
theorem Ct.Ws {C:Ct}(h:C.pick=none):C.free=0:=by
 unfold Ct.free Ct.Jw;rw[List.countP_eq_zero];intro j b;rw[Ct.Qad h j (List.mem_range.1 b)];simp
theorem Ct.Eo (C:Ct):C.alloc.n=C.n:=by unfold Ct.alloc;split;exact C.Zi _ _;rfl
theorem Ct.Qa1 (C:Ct)(a:Int):(C.ref a).n=C.n:=by unfold Ct.ref;split;exact C.Zi _ _;rfl
theorem Ct.Fj (C:Ct)(a:Int):(C.Qy a).n=C.n:=by unfold Ct.Qy;split;rfl;exact C.Zi _ _
theorem Ct.Sm {C:Ct}(h:C.ok):C.alloc.ok:=by unfold Ct.alloc;split;exact Ct.G9 h _ _ (by omega) (by omega);exact h
theorem Ct.Ol {C:Ct}(h:C.res):C.alloc.res:=by
 unfold Ct.alloc;split
 ·rename_i k b;exact Ct.Au h _ (Ct.Xk b).2.1
 ·exact h
theorem Ct.Qat {C:Ct}(h:C.res)(a:Int):(C.ref a).res:=by
 unfold Ct.ref;split
 ·rename_i b;have d:¬C.get a=0:=λe=>by unfold Ct.Y8 at b;rw[if_pos e] at b;omega
  exact Ct.Au h _ (Ct.Kw h d).2.2
 ·exact h
theorem Ct.Po {C:Ct}(h:C.res)(a:Int):(C.Qy a).res:=by
 unfold Ct.Qy;split
 ·exact h
 ·rename_i b;exact Ct.Au h _ (Ct.Kw h b).2.2
theorem Ct.Qas {C:Ct}(h:C.ok)(a:Int):(C.ref a).ok:=by
 unfold Ct.ref;split
 ·rename_i b;have d:=C.Jc h a;refine Ct.G9 h _ _ (by omega) ?_;unfold Ct.Y8 at b;split at b
  ·omega
  ·split at b<;>omega
 ·exact h
theorem Ct.Pn {C:Ct}(h:C.ok)(a:Int):(C.Qy a).ok:=by
 unfold Ct.Qy;split
 ·exact h
 ·have b:=C.Jc h a;exact Ct.G9 h _ _ (by omega) (by omega)
theorem Ct.Ip (n:Nat):(Ct.zero n).res:=λa b _=>by
 rw[Ct.Q9] at b;show nm (List.replicate n 0) a=0;unfold nm;simp[b]
theorem Ct.Eu (C:Ct)(j:Nat):C.may j=decide (C.first<=j/\nm C.now j=0/\nm C.done j=0):=by
 unfold Ct.may Ct.U3;rw[Bool.eq_iff_iff];simp
def Ct.is (C:Ct)(n:Nat)(f d:Nat->Int):Prop:=C.n=n/\∀a,a<n->nm C.now a=f a/\nm C.done a=d a
theorem Ct.Qao (n:Nat):(Ct.zero n).is n (λ_=>0) (λ_=>0):=by
 refine⟨Ct.Q9 n,λa b=>?_⟩;show nm (List.replicate n 0) a=0/\nm (List.replicate n 0) a=0;unfold nm;simp[b]
