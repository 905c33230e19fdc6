/- Seal's fields, valid, packed, unpacked: the header's five numbers as a block holds them -/
import Derived.Test.YthkfkhejjmhomaaGreatDoorDb3
import Derived.Test.YthkfkhejjmhomaaGreatDoorDb4
import Derived.BigRegion
import Derived.StillTailTactics
import Derived.Deep.RegionHeld3
import Derived.Laws.CopyOwn
namespace Go.Proofs.YthkfkhejjmhomaaGreatDoor
open Go Go.RowKit Go.Proofs
set_option maxHeartbeats 2000000
set_option maxRecDepth 10000
structure Hd where
 kind:Int
 addr:Int
 count:Int
 level:Int
 gen:Int
def Hd.v (h:Hd):Value:=.agg #[.int .i64 h.kind,.int .i64 h.addr,.int .i64 h.count,.int .i64 h.level,.int .i64 h.gen]
def Hd.zero:Hd:=⟨0,0,0,0,0⟩
def Yr:Nat->Nat|0=>0|1=>3|2=>1|3=>2|_=>4
def Y2:Nat->Int|0=>1|1=>1|2=>2|3=>2|_=>5
def Fz:Nat->Int|0=>1|_=>0
def F5:Nat->Int|0=>6|1=>8|2=>2047|3=>65535|_=>1099511627775
def Hd.En (h:Hd):Nat->Int|0=>h.kind|1=>h.level|2=>h.addr|3=>h.count|_=>h.gen
def Hd.set (h:Hd)(k:Nat)(x:Int):Hd:=match k with
 |0=>{ h with kind:=x }
 |1=>{ h with level:=x }
 |2=>{ h with addr:=x }
 |3=>{ h with count:=x }
 |_=>{ h with gen:=x }
def fv (d k:Nat):Value:=.agg #[.pointer (some ⟨d,Yr k,none⟩),.int .i64 (Y2 k),.int .i64 (Fz k),.int .i64 (F5 k)]
def Dj (d:Nat):List Value:=[.pointer (some ⟨d,0,none⟩),.int .i64 1,.int .i64 1,.int .i64 6,.pointer (some ⟨d,3,none⟩),.int .i64 1,.int .i64 0,.int .i64 8,
 .pointer (some ⟨d,1,none⟩),.int .i64 2,.int .i64 0,.int .i64 2047,.pointer (some ⟨d,2,none⟩),.int .i64 2,.int .i64 0,.int .i64 65535,.pointer (some ⟨d,4,none⟩),.int .i64 5,.int .i64 0,.int .i64 1099511627775]
def fvs (d:Nat):Value:=.agg (Dj d).toArray
def HB (w:World)(d:Nat)(h:Hd):Prop:=∃t,w.1[d]?=some (.cells #[.int .i64 h.kind,.int .i64 h.addr,.int .i64 h.count,.int .i64 h.level,.int .i64 h.gen] t (0,0))
theorem qrq (w:World)(d:Array Value)(t:TypeId):(w.alloc (.cells d t)).there w.1.size 0 d.size:=λj f=>by
 have e:(w.alloc (.cells d t)).1[w.1.size]?=some (.cells d t (0,0)):=heap_alloc_new w _;refine⟨?_,by unfold World.frozen?;rw[e];simp⟩;rw[cell_of_row _ _ _ _ _ _ e,Nat.zero_add,Array.getElem?_eq_getElem f];rfl
theorem q2e {f:Func}{p:Tmp}{ty:TypeId}{m:Addr}{v:Value}{P:Program}{w:World}{d:Array Value}(h:f.results=#[.cell p ty])(y:d.getD p undef=.pointer (some m))(u:(loadVar ty m).run P w=.ok v w) :
  (results f d).run P w=.ok v w:=by
 have e:(results f d).run P w=((asAddr (d.getD p undef)).run P w).andThen λa A=>(loadVar ty a).run P A:=by
  simp only[results,h];simp[Sem.run_bind,Result.andThen];try rfl
 rw[e,y];simp[asAddr,u]
theorem idx (d k:Nat)(e:k<5)(w:World):(Instr.index 325 (fvs d) (.int .i64 (k:Int))).run Tryz.prog w=.ok (fv d k) w:=by
 match k,e with
 |0,_=>show (Instr.index 325 (fvs d) (.int .i64 0)).run Tryz.prog w=_;kernel_rfl
 |1,_=>show (Instr.index 325 (fvs d) (.int .i64 1)).run Tryz.prog w=_;kernel_rfl
 |2,_=>show (Instr.index 325 (fvs d) (.int .i64 2)).run Tryz.prog w=_;kernel_rfl
 |3,_=>show (Instr.index 325 (fvs d) (.int .i64 3)).run Tryz.prog w=_;kernel_rfl
 |4,_=>show (Instr.index 325 (fvs d) (.int .i64 4)).run Tryz.prog w=_;kernel_rfl
theorem q7x (d:Nat)(w:World) :
  Calls Tryz.prog 240 #[.pointer (some ⟨d,0,none⟩)] w λe B=>e=.returned (fvs d)/\Below w.1.size w B:=by
 go_enter Tryz.func240,Tryz.ntmps240
 go_wp2;generalize m:w.alloc _=f;go_still_tail 21,(by kernel_rfl)
 change wpList _ _ _ _ _ f.drew;have p:Below w.1.size w f:=by rw[<-m];exact Qk
 have A:f.drew.there w.1.size 0 20:=by
  show f.there w.1.size 0 20;rw[<-m];exact qrq w _ _
 clear m;refine wpList_store_mid rfl _ _ _ rfl w.1.size 0 (Dj d).toArray rfl rfl A (by kernel_rfl) (by simp[Dj,Value.oneCell']) ?_;have y:(f.drew.setCells w.1.size 0 (Dj d)).rangeAt w.1.size 0 (Dj d):=World.rangeAt_setCells_same _ _ _ _ A;have u:Below w.1.size w (f.drew.setCells w.1.size 0 (Dj d)):=p.drew.trans ((Vb (S:=λk=>k=w.1.size) rfl (Dj d) 0 f.drew).below (λx E=>by omega) (p.size));change wpList _ _ _ _ _ (f.drew.setCells w.1.size 0 (Dj d));generalize f.drew.setCells w.1.size 0 (Dj d)=D at y u ⊢;go_wp2;refine bodyPost_ret (v:=fvs d) ?_ rfl ⟨rfl,u⟩;exact q2e Tryz.results240 rfl (run_loadVar_mid D w.1.size 0 325 (Dj d) _ y Tryz.underlying325 rfl (by kernel_rfl))
theorem HB.at_ {w:World}{bp:Nat}{h:Hd}(H:HB w bp h)(k:Nat):w.cell? ⟨bp,Yr k,none⟩=some (.int .i64 (h.En k)):=by
 obtain⟨t,H⟩:=H;rw[cell_of_row _ _ _ _ _ _ H];match k with
 |0=>rfl
 |1=>rfl
 |2=>rfl
 |3=>rfl
 |_+4=>rfl
theorem HB.below {w w':World}{bp:Nat}{h:Hd}(H:HB w bp h){B:Nat}(hb:Below B w w')(hB:bp<B):HB w' bp h:=by
 obtain⟨t,H⟩:=H;exact⟨t,(hb.block bp hB).trans H⟩
theorem Qbc (d k:Nat)(e:k<5)(w:World):(Instr.index 325 (fvs d) (.int .i64 (k:Int))).run Tryz.prog w=.ok (.agg #[.pointer (some ⟨d,Yr k,none⟩),.int .i64 (Y2 k),.int .i64 (Fz k),.int .i64 (F5 k)]) w:=idx d k e w
def Hd.in_ (h:Hd)(k:Nat):Prop:=Fz k<=h.En k/\h.En k<=F5 k
def Hd.ok (h:Hd):Bool:=decide ((1<=h.kind/\h.kind<=6)/\(0<=h.level/\h.level<=8)/\(0<=h.addr/\h.addr<=2047)/\(0<=h.count/\h.count<=65535)/\0<=h.gen/\h.gen<=1099511627775)
theorem Hd.Qcd (h:Hd)(H:∀j<5,h.in_ j):h.ok=true:=by
 have h0:=H 0 (by omega);have h1:=H 1 (by omega);have h2:=H 2 (by omega);have d:=H 3 (by omega);have e:=H 4 (by omega);exact decide_eq_true ⟨h0,h1,h2,d,e⟩
theorem Hd.Qas (h:Hd)(H:h.ok=true)(j:Nat)(hj:j<5):h.in_ j:=by
 obtain⟨h0,h1,h2,d,e⟩:=of_decide_eq_true H;match j,hj with
 |0,_=>exact h0
 |1,_=>exact h1
 |2,_=>exact h2
 |3,_=>exact d
 |4,_=>exact e
theorem q3j (h:Hd)(w:World) :
  Calls Tryz.prog 198 #[.agg #[.int .i64 h.kind,.int .i64 h.addr,.int .i64 h.count,.int .i64 h.level,.int .i64 h.gen]] w λe w'=>e=.returned (.bool h.ok)/\Below w.1.size w w':=by
 go_enter Tryz.func198,Tryz.ntmps198
 go_wp2_with (go_at_call 240;refine (q7x w.1.size _).mono ?_;rintro e Q ⟨rfl,u⟩)
 have T:HB Q w.1.size h:=HB.below ⟨_,heap_alloc_new w _⟩ u (by simp);have F:Below w.1.size w Q:=(Qk).trans (u.mono (by simp));have P:=u.size;rw[World.size_alloc] at P;go_loopw [6] (λi wr=>∃k:Nat,k<=5/\i=.int .i64 (k:Int)/\(∀j<k,h.in_ j)/\HB wr w.1.size h/\Below w.1.size w wr/\w.1.size<wr.1.size) (λi _=>5-(intOf i).toNat)
 case atStart=>exact⟨0,by omega,rfl,λj U=>by omega,T,F,by omega⟩
 case round=>
  obtain⟨k,hk,rfl,B,H,D,y⟩:=hrel;by_cases E:k<5
  ·have J:=Qbc w.1.size k E;have G:=H.at_ k;have W:(0:Int)<=(k:Int):=by omega
   have I:∀o:Obj,(wr.alloc o).cell? ⟨w.1.size,Yr k,none⟩=some (.int .i64 (h.En k)):=λo=>((Below.refl _ _).alloc (Nat.le_refl _) o).cell y |>.trans G
   go_wp2;generalize m:wr.alloc _=d;have f:Below wr.1.size wr d:=by rw[<-m];exact Qk
   have hn:d.1[wr.1.size]?=some (.cells #[.pointer (some ⟨w.1.size,Yr k,none⟩),.int .i64 (Y2 k),.int .i64 (Fz k),.int .i64 (F5 k)] 324 (0,0)):=by rw[<-m];exact heap_alloc_new wr _
   have Y:d.1.size=wr.1.size+1:=by rw[<-m];simp
   clear m J;have q0:d.cell? ⟨wr.1.size,0,none⟩=some (.pointer (some ⟨w.1.size,Yr k,none⟩)):=by rw[cell_of_row _ _ _ _ _ _ hn];rfl
   have q2:d.cell? ⟨wr.1.size,2,none⟩=some (.int .i64 (Fz k)):=by rw[cell_of_row _ _ _ _ _ _ hn];rfl
   have q3:d.cell? ⟨wr.1.size,3,none⟩=some (.int .i64 (F5 k)):=by rw[cell_of_row _ _ _ _ _ _ hn];rfl
   have qc:d.cell? ⟨w.1.size,Yr k,none⟩=some (.int .i64 (h.En k)):=(f.cell y).trans G;have R:=H.below f y;have p:=D.trans (f.mono D.size);clear D H G I hn f;generalize Z:h.En k=x at *;generalize X:Fz k=lo at *;generalize hm:F5 k=hi at *;by_cases h1:x<lo
   ·have A:h.ok=false:=by
     cases O:h.ok
     ·rfl
     ·have:=(h.Qas O k E).1;omega
    go_quiet (fail)
    go_wp2;go_ret;exact⟨by first|rfl|(rw[A];rfl),q0y p _⟩
   ·have g1:decide (x<lo)=false:=decide_eq_false h1;by_cases h2:hi<x
    ·have A:h.ok=false:=by
      cases O:h.ok
      ·rfl
      ·have:=(h.Qas O k E).2;omega
     go_quiet (fail)
     go_wp2;go_ret;exact⟨by first|rfl|(rw[A];rfl),q0y p _⟩
    ·have g2:decide (hi<x)=false:=decide_eq_false h2;go_quiet (fail)
     go_wp2;refine⟨⟨k+1,by omega,rfl,λj U=>?_,R.below (q0y (Below.refl d.1.size d) _) (by omega),q0y p _,by show w.1.size<d.1.size;omega⟩,by simp[intOf];omega⟩;by_cases K:j=k
     ·rw[K];unfold Hd.in_;rw[Z,X,hm];omega
     ·exact B j (by omega)
  ·have M:k=5:=by omega
   go_wp2;go_ret;exact⟨by rw[h.Qcd (by rw[<-M];exact B)];rfl,D⟩
def hdB (h:Hd):List UInt8:=Qy h.kind 1++(Qy h.level 1++(Qy h.addr 2++(Qy h.count 2++Qy h.gen 5)))
def Gm (h:Hd):Nat->List UInt8
 |0=>[]
 |k+1=>Gm h k++Qy (h.En k) (Y2 k).toNat
theorem qvb (h:Hd)(k:Nat)(d:k<=5):(Gm h k).length<=11:=by
 match k,d with
 |0,_=>simp[Gm]
 |1,_=>simp[Gm,Xf,Y2]
 |2,_=>simp[Gm,Xf,Y2]
 |3,_=>simp[Gm,Xf,Y2]
 |4,_=>simp[Gm,Xf,Y2]
 |5,_=>simp[Gm,Xf,Y2]
theorem qvc (h:Hd):Gm h 5=hdB h:=by simp[Gm,hdB,Hd.En,Y2]
theorem qrr (k:Nat):1<=Y2 k/\Y2 k<=5:=by
 match k with
 |0=>decide
 |1=>decide
 |2=>decide
 |3=>decide
 |_+4=>exact⟨by show (1:Int)<=5;omega,by show (5:Int)<=5;omega⟩
theorem qn2 (h:Hd)(w:World) :
  Calls Tryz.prog 199 #[.agg #[.int .i64 h.kind,.int .i64 h.addr,.int .i64 h.count,.int .i64 h.level,.int .i64 h.gen]] w λe T=>∃A n c,e=.returned (.slice A n c)/\Sl T A n c (hdB h)/\Below w.1.size w T:=by
 go_enter Tryz.func199,Tryz.ntmps199
 go_wp2_with (go_at_call 240;refine (q7x w.1.size _).mono ?_;rintro e U ⟨rfl,y⟩)
 have Y:HB U w.1.size h:=HB.below ⟨_,heap_alloc_new w _⟩ y (by simp);have G:Below w.1.size w U:=(Qk).trans (y.mono (by simp));have P:=y.size;rw[World.size_alloc] at P;go_loopw [3,7] (λs i wr=>∃(k:Nat) (A:Option Addr) (n c:Nat),k<=5/\s=.slice A n c/\i=.int .i64 (k:Int)/\Sl wr A n c (Gm h k)/\HB wr w.1.size h/\Below w.1.size w wr/\w.1.size<wr.1.size) (λ_ i _=>5-(intOf i).toNat)
 case atStart=>exact⟨0,none,0,0,by omega,rfl,rfl,Ik _,Y,G,by omega⟩
 case round=>
  obtain⟨k,A,n,c,hk,rfl,rfl,E,H,F,D⟩:=hrel;by_cases Z:k<5
  ·have J:=Qbc w.1.size k Z;have Q:=H.at_ k;have a2:(0:Int)<=(k:Int):=by omega
   go_wp2;generalize p:wr.alloc _=u;have d:Below wr.1.size wr u:=by rw[<-p];exact Qk
   have hn:u.1[wr.1.size]?=some (.cells #[.pointer (some ⟨w.1.size,Yr k,none⟩),.int .i64 (Y2 k),.int .i64 (Fz k),.int .i64 (F5 k)] 324 (0,0)):=by rw[<-p];exact heap_alloc_new wr _
   have a7:u.1.size=wr.1.size+1:=by rw[<-p];simp
   clear p J;have q0:u.cell? ⟨wr.1.size,0,none⟩=some (.pointer (some ⟨w.1.size,Yr k,none⟩)):=by rw[cell_of_row _ _ _ _ _ _ hn];rfl
   have q1:u.cell? ⟨wr.1.size,1,none⟩=some (.int .i64 (Y2 k)):=by rw[cell_of_row _ _ _ _ _ _ hn];rfl
   have qc:u.cell? ⟨w.1.size,Yr k,none⟩=some (.int .i64 (h.En k)):=(d.cell D).trans Q;have X:=H.below d D;have O:=E.below d;have B:=F.trans (d.mono F.size);have R:=E.len;have a6:=qvb h k hk;have a1:=qrr k;have M:Aa (Gm h k) (h.En k) (Y2 k)=Gm h (k+1):=by unfold Aa;rw[if_pos (by omega)];rfl
   clear F H Q hn d E;go_still_tail 7,(by kernel_rfl)
   change wpList _ _ _ _ _ u.drew;go_wp2_with (go_at_call 180;refine (q79 A n c (Gm h k) (h.En k) (Y2 k) _ O.drew (by omega)).mono ?_;rintro e w3 ⟨W,n3,c3,rfl,m,I⟩)
   rw[M] at m;have f:Below u.1.size u w3:=(Below.refl _ _).drew.trans I;exact⟨⟨k+1,W,n3,c3,by omega,rfl,rfl,m.sl,X.below f (by omega),B.trans (f.mono B.size),by have:=f.size;omega⟩,by simp[intOf];omega⟩
  ·have K:k=5:=by omega
   go_wp2;go_ret;rw[K,qvc] at E;exact⟨A,n,c,rfl,E,F⟩
def Us:Nat->Nat|0=>0|1=>1|2=>2|3=>4|4=>6|_=>11
def rdF (l:List UInt8)(k:Nat):Nat:=Qw ((l.drop (Us k)).take (Y2 k).toNat)
def Qbh (l:List UInt8):Nat->Hd
 |0=>Hd.zero
 |k+1=>(Qbh l k).set k (rdF l k)
def G5 (l:List UInt8):Hd:=⟨Qw (l.take 1),Qw ((l.drop 2).take 2),Qw ((l.drop 4).take 2),Qw ((l.drop 1).take 1),Qw ((l.drop 6).take 5)⟩
theorem qvd (l:List UInt8):Qbh l 5=G5 l:=rfl
theorem qrs (k:Nat)(d:k<5):Us (k+1)=Us k+(Y2 k).toNat:=by
 match k,d with
 |0,_=>rfl
 |1,_=>rfl
 |2,_=>rfl
 |3,_=>rfl
 |4,_=>rfl
theorem qy7 (k:Nat)(d:k<=5):Us k<=11:=by
 match k,d with
 |0,_=>decide
 |1,_=>decide
 |2,_=>decide
 |3,_=>decide
 |4,_=>decide
 |5,_=>decide
theorem HB.Af {w:World}{bp:Nat}{h:Hd}(H:HB w bp h)(k:Nat)(x:Int):HB (w.setCell ⟨bp,Yr k,none⟩ (.int .i64 x)) bp (h.set k x):=by
 obtain⟨t,H⟩:=H;refine⟨t,(heap_setCell_same w bp (Yr k) _ t (.int .i64 x) H).trans ?_⟩;match k with
 |0=>rfl
 |1=>rfl
 |2=>rfl
 |3=>rfl
 |_+4=>rfl
theorem HB.fz {w:World}{bp:Nat}{h:Hd}(H:HB w bp h)(k:Nat):w.frozen? ⟨bp,Yr k,none⟩=false:=by
 obtain⟨t,H⟩:=H;unfold World.frozen?;rw[H];simp
theorem HB.zero (w:World)(t:TypeId):HB (w.alloc (.cells #[.int .i64 0,.int .i64 0,.int .i64 0,.int .i64 0,.int .i64 0] t)) w.1.size Hd.zero:=⟨t,heap_alloc_new w _⟩
theorem Own.turn {w w':World}{base n c:Nat}{e:TypeId}{A:Option Addr}{l:List UInt8}(h:Own w base e A n c l)(hk:∀g,base<=g->g<w.1.size->w'.1[g]?=w.1[g]?):Own w' base e A n c l:=by
 refine⟨h.1,?_⟩;rcases h.2 with f|⟨g,cap,d,f,h1,m,r⟩
 ·exact .inl f
 ·exact .inr ⟨g,cap,d,f,h1,(hk g h1 (Array.getElem?_eq_some_iff.1 m).1).trans m,r⟩
def Hd.vs (h:Hd):List Value:=[.int .i64 h.kind,.int .i64 h.addr,.int .i64 h.count,.int .i64 h.level,.int .i64 h.gen]
theorem HB.range {w:World}{bp:Nat}{h:Hd}(H:HB w bp h):w.rangeAt bp 0 h.vs:=λj v d=>by
 obtain⟨t,H⟩:=H;rw[cell_of_row _ _ _ _ _ _ H,Nat.zero_add];simpa [Hd.vs] using d
theorem HB.there {w:World}{bp:Nat}{h:Hd}(H:HB w bp h):w.there bp 0 5:=λj d=>by
 obtain⟨t,H⟩:=H;refine⟨?_,by unfold World.frozen?;rw[H];simp⟩;rw[cell_of_row _ _ _ _ _ _ H,Nat.zero_add,Array.getElem?_eq_getElem (by simpa using d)];rfl
theorem q7y {e:Array Oper}{d:List Oper}{o:Oper}{a:Act}{w:World}{Q:Exit->Act->World->Prop}(p:o.guard=none)(x:Operand)(f:o.op=Op.load 198 x)
  (b:Nat) (u:a.eval x=.pointer (some ⟨b,0,none⟩)) (h:Hd) (H:HB w b h) (m:wpList Tryz.prog e Q d (a.put o.dst h.v) w):wpList Tryz.prog e Q (o::d) a w:=
 wpList_load_mid p _ x f b 0 u h.vs _ H.range Tryz.underlying198 rfl (by kernel_rfl) m
theorem Ph {e:Array Oper}{d:List Oper}{o:Oper}{a:Act}{w:World}{Q:Exit->Act->World->Prop}(A:o.guard=none)(x y:Operand)(m:o.op=Op.store 198 x y)
  (b:Nat) (p:a.eval x=.pointer (some ⟨b,0,none⟩)) (h h0:Hd) (D:a.eval y=h.v) (H:HB w b h0) (F:b<w.1.size)
  (u:∀f,f.rangeAt b 0 h.vs->(∀B,B<=b->Below B w f)->Turn (λk=>k=b) w f->wpList Tryz.prog e Q d (a.put o.dst undef) f):wpList Tryz.prog e Q (o::d) a w:=
 wpList_store_mid A _ x y m b 0 h.vs.toArray p D H.there (by kernel_rfl) (by simp[Hd.vs,Value.oneCell'])
  (u _ (World.rangeAt_setCells_same _ _ _ _ H.there) (λB E=>(Vb (S:=λk=>k=b) rfl h.vs 0 w).below (λx p=>by omega) (by omega)) (Vb (S:=λk=>k=b) rfl h.vs 0 w))
theorem q4m (A:Option Addr)(c:Nat)(l:List UInt8)(w:World)(hs:Sl w A 11 c l) :
  Calls Tryz.prog 210 #[.slice A 11 c] w λe f=>e=.returned (G5 l).v/\Below w.1.size w f:=by
 go_enter Tryz.func210,Tryz.ntmps210
 go_wp2_with (go_at_call 240;refine (q7x (w.1.size+1) _).mono ?_;rintro e w2 ⟨rfl,m⟩)
 have a7:=m.size;simp only[World.size_alloc] at a7 m;have G:Below w.1.size w w2:=(((Below.refl _ w).alloc (Nat.le_refl _) _).alloc (by simp) _).trans (m.mono (by omega));have hR:HB w2 w.1.size Hd.zero:=((HB.zero w _).below (Qk) (by simp)).below m (by omega);have hH:HB w2 (w.1.size+1) Hd.zero:=by
  have:=HB.zero (w.alloc (.cells #[.int .i64 0,.int .i64 0,.int .i64 0,.int .i64 0,.int .i64 0] 198)) 198;rw[World.size_alloc] at this;exact this.below m (by omega)
 clear m;have hl:=hs.len;go_loopw [0,7] (λs i wr=>∃(k:Nat) (A:Option Addr) (c:Nat),k<=5/\s=.slice A (11-Us k) c/\i=.int .i64 (k:Int)/\Sl wr A (11-Us k) c (l.drop (Us k))/\HB wr w.1.size Hd.zero/\HB wr (w.1.size+1) (Qbh l k)/\Below w.1.size w wr/\w.1.size+2<=wr.1.size) (λ_ i _=>5-(intOf i).toNat)
 case atStart=>exact⟨0,A,c,by omega,rfl,rfl,by simpa [Us] using hs.below G,hR,hH,G,by omega⟩
 case round=>
  obtain⟨k,A1,c1,hk,rfl,rfl,K,E,H,O,b1⟩:=hrel;by_cases h5:k<5
  ·have X:=Qbc (w.1.size+1) k h5;have b0:(0:Int)<=(k:Int):=by omega
   go_wp2;generalize D:wr.alloc _=d;have y:Below wr.1.size wr d:=by rw[<-D];exact Qk
   have hn:d.1[wr.1.size]?=some (.cells #[.pointer (some ⟨w.1.size+1,Yr k,none⟩),.int .i64 (Y2 k),.int .i64 (Fz k),.int .i64 (F5 k)] 324 (0,0)):=by rw[<-D];exact heap_alloc_new wr _
   have b3:d.1.size=wr.1.size+1:=by rw[<-D];simp
   clear D X;have q0:d.cell? ⟨wr.1.size,0,none⟩=some (.pointer (some ⟨w.1.size+1,Yr k,none⟩)):=by rw[cell_of_row _ _ _ _ _ _ hn];rfl
   have q1:d.cell? ⟨wr.1.size,1,none⟩=some (.int .i64 (Y2 k)):=by rw[cell_of_row _ _ _ _ _ _ hn];rfl
   have H1:=H.below y (by omega);have Q:=E.below y (by omega);have a6:=K.below y;have F:=O.trans (y.mono O.size);have a1:=qrs k h5;have b2:=qy7 (k+1) (by omega);have a8:=qrr k;have W:(l.drop (Us k)).drop (Y2 k).toNat=l.drop (Us (k+1)):=by rw[List.drop_drop,a1]
   have a2:(Qw ((l.drop (Us k)).take (Y2 k).toNat):Int)=(rdF l k:Int):=rfl;clear O H hn y K E;have HT:=λ(f:World) (h':Sl f A1 (11-Us k) c1 (l.drop (Us k)))=>q5b A1 (11-Us k) c1 (l.drop (Us k)) (Y2 k) f h' (by omega) (by omega) (by omega) (by omega)
   rw[W,a2] at HT;have R:∀f:World,Turn (λk=>k=w.1.size+1) d f->f.cell? ⟨wr.1.size,0,none⟩=some (.pointer (some ⟨w.1.size+1,Yr k,none⟩))/\f.cell? ⟨wr.1.size,1,none⟩=some (.int .i64 (Y2 k))/\Turn (λk=>k=w.1.size+1) d f:=λf T=>⟨(World.cell?_of_block (T.block wr.1.size (by omega) (by show ¬(wr.1.size=w.1.size+1);omega))).trans q0,(World.cell?_of_block (T.block wr.1.size (by omega) (by show ¬(wr.1.size=w.1.size+1);omega))).trans q1,T⟩
   have TD:Turn (λk=>k=w.1.size+1) d d.drew:=Qx (Below.refl _ _).drew;go_region_held3 (λf=>f.cell? ⟨wr.1.size,0,none⟩=some (.pointer (some ⟨w.1.size+1,Yr k,none⟩))/\f.cell? ⟨wr.1.size,1,none⟩=some (.int .i64 (Y2 k))/\Turn (λk=>k=w.1.size+1) d f)
    (first|assumption|exact R _ TD|(go_split_ands;exact R _ (Turn.then ‹Turn (λk=>k=w.1.size+1) d _› (Qx ‹Below (World.heap _).size _ _›)))|(go_split_ands;exact R _ (Turn.then ‹Turn (λk=>k=w.1.size+1) d _› (Ac _ rfl))))
    (first
     |(go_at_call 151;refine (HT _ a6.drew).mono ?_;rintro e M ⟨A3,n3,c3,rfl,B,U⟩;have u:Below d.1.size d M:=(Below.refl _ d).drew.trans U;have P:=H1.below u (by omega);have q5:=P.at_ k;have q6:=P.fz k)
     |fail)
   have Z:n3=11-Us (k+1):=by have:=B.len;rw[List.length_drop,hl] at this;omega
   subst Z;go_wp2;have I:Below (w.1.size+1) M (M.setCell ⟨w.1.size+1,Yr k,none⟩ (.int .i64 (rdF l k:Int))):=(Below.refl _ M).setCell (p:=⟨w.1.size+1,Yr k,none⟩) (Nat.le_refl _) _;have b4:=u.size;refine⟨⟨k+1,A3,c3,by omega,rfl,rfl,?_,(Q.below u (by omega)).below I (by omega),P.Af k _,(F.trans (u.mono F.size)).trans (I.mono (by omega)),by show w.1.size+2<=(M.setCell _ _).1.size;rw[World.size_setCell];omega⟩,by simp[intOf];omega⟩;exact (B.turn λg hg _=>Below.heap_setCell _ _ _ _ (by show g≠w.1.size+1;have h1:d.drew.1.size=d.1.size:=rfl;omega)).sl
  ·have Y:k=5:=by omega
   go_wp2_with (first
    |(refine q7y rfl _ rfl _ rfl _ H ?_)
    |(refine Ph rfl _ _ rfl _ rfl _ _ rfl E (by omega) ?_;intro w4 J u _))
   refine bodyPost_ret (v:=(G5 l).v) ?_ rfl ⟨rfl,?_⟩
   ·rw[Y,qvd] at J;exact q2e Tryz.results210 rfl (run_loadVar_mid _ w.1.size 0 198 _ _ J Tryz.underlying198 rfl (by kernel_rfl))
   ·exact O.trans (u _ (Nat.le_refl _))
theorem qcq {α β:Type}(f:α->β)(L:List α)(o:Nat)(d:List α):splice (L.map f) o (d.map f)=(splice L o d).map f:=by simp[splice]
theorem Own.whole {w:World}{base n g:Nat}{e:TypeId}{l:List UInt8}(h:Own w base e (some ⟨g,0,none⟩) n n l):base<=g/\w.1[g]?=some (.cells (l.map bv).toArray e (0,0))/\n<=maxLen:=by
 rcases h.2 with⟨f,_⟩|⟨E,cap,m,f,A,B,h1,h2,u,y⟩
 ·injection f with d;cases d
 ·injection f with d D p;injection d with d;injection d with d;subst d;subst p;refine⟨A,?_,h2⟩;rw[<-y,List.take_of_length_le (by simp[u])];exact B
theorem Own.of_whole {w:World}{base n g:Nat}{e:TypeId}{l:List UInt8}(hb:base<=g)(hg:w.1[g]?=some (.cells (l.map bv).toArray e (0,0)))(hl:l.length=n)(hm:n<=maxLen):Own w base e (some ⟨g,0,none⟩) n n l:=
 ⟨by simpa using hl,.inr ⟨g,n,_,rfl,hb,hg,Nat.le_refl _,hm,by simpa using hl,by rw[List.take_of_length_le (by simp[hl])]⟩⟩
theorem qay {P:Program}{t e:TypeId}(T:Ux P t e){w:World}{E:Array Oper}{y:List Oper}{o:Oper}{a:Act}{Q:Exit->Act->World->Prop}(I:o.guard=none)(d s:Operand)
  (ho:o.op=.call { callee:=.builtin .copy,args:=#[d,s],argTypes:=#[t,t] })
  (base g n:Nat) (l:List UInt8) (u:Own w base e (some ⟨g,0,none⟩) n n l) (off p A:Nat) (hd:a.eval d=.slice (some ⟨g,off,none⟩) p A)
  (B:Option Addr) (m c:Nat) (O:List UInt8) (hs:a.eval s=.slice B m c) (K:Sl w B m c O) (J:m<=p) (U:off+m<=n)
  (Y:∀F,Own F base e (some ⟨g,0,none⟩) n n (splice l off O)->Below base w F->wpList P E Q y (a.put o.dst (goInt m)) F):wpList P E Q (o::y) a w:=by
 obtain⟨i,hi,a1,M,a2⟩:=info_parts T.info;obtain⟨R,hg,hm⟩:=u.whole;have hl:=u.len;have D:=K.len;refine wpList_copy_splice I d s t t ho e T.sl (by rw[hi];simp[M]) _ _ _ _ _ _ hd hs g off (l.map bv) e hg (O.map bv) (by rw[List.length_map,D];exact (Nat.min_eq_left J).symm) (λh0=>?_) (by simp;omega) (qeg _) base w (Below.refl _ _) R ?_
 ·rw[List.length_map] at h0;obtain⟨W,rfl,_⟩:=K.cell (k:=0) (by omega);refine⟨rfl,W,rfl,λj v hv=>?_⟩;obtain⟨X,G,_,Z⟩:=K.2.2.2 j v hv;injection G with G;subst G;exact Z
 ·intro F f H;have f:=f.out;rw[qcq] at f;have:=Y F (Own.of_whole R f (by rw[length_splice _ _ _ (by omega),hl]) hm) H;rw[List.length_map,D];exact this
theorem qi9 {P:Program}{t e:TypeId}(T:Ux P t e){w:World}{R:Array Oper}{o:Oper}{a:Act}{K:Act->World->Prop}{Q:Exit->Act->World->Prop}{E:Prop}(H:o.guard=none)(d s:Operand)
  (ho:o.op=.call { callee:=.builtin .copy,args:=#[d,s],argTypes:=#[t,t] })
  (base g n:Nat) (l:List UInt8) (u:Own w base e (some ⟨g,0,none⟩) n n l) (off p y:Nat) (hd:a.eval d=.slice (some ⟨g,off,none⟩) p y)
  (B:Option Addr) (m c:Nat) (O:List UInt8) (hs:a.eval s=.slice B m c) (J:Sl w B m c O) (I:m<=p) (U:off+m<=n)
  (Y:∀D,Own D base e (some ⟨g,0,none⟩) n n (splice l off O)->Below g w D->K (a.put o.dst (goInt m)) D):if Region.wanted o (yielded R a.tmps)=true then Oper.wp P o a w K Q else E:=by
 obtain⟨i,hi,a1,M,a2⟩:=info_parts T.info;obtain⟨Z,hg,hm⟩:=u.whole;have hl:=u.len;have A:=J.len;refine step_copy_splice H d s t t ho e T.sl (by rw[hi];simp[M]) _ _ _ _ _ _ hd hs g off (l.map bv) e hg (O.map bv) (by rw[List.length_map,A];exact (Nat.min_eq_left I).symm) (λh0=>?_) (by simp;omega) (qeg _) g w (Below.refl _ _) (Nat.le_refl _) ?_
 ·rw[List.length_map] at h0;obtain⟨W,rfl,_⟩:=J.cell (k:=0) (by omega);refine⟨rfl,W,rfl,λj v hv=>?_⟩;obtain⟨X,F,_,hc⟩:=J.2.2.2 j v hv;injection F with F;subst F;exact hc
 ·intro D f G;have f:=f.out;rw[qcq] at f;have:=Y D (Own.of_whole Z f (by rw[length_splice _ _ _ (by omega),hl]) hm) G;rw[List.length_map,A];exact this
def Uw (l:List UInt8):List UInt8:=Qy (more 0 (l.drop 4):Nat) 4
theorem q7z (A:Option Addr)(n c:Nat)(l:List UInt8)(w:World)(y:Sl w A n c l)(hn:5<=n)(I:Tab w) :
  Calls Tryz.prog 200 #[.slice A n c] w λe H=>∃B G D,e=.returned (.slice B G D)/\Own H w.1.size 5 B G D (Uw l)/\Below w.1.size w H:=by
 have M:=y.cap;have hm:=y.max;unfold maxLen at hm;have E:=y.drop (k:=4) (by omega);have p:¬c=4:=by omega
 rw[if_neg p] at E;have u:=qw9 0 (l.drop 4);generalize F:more 0 (l.drop 4)=s at u;have f:Aa [] (s:Int) 4=Uw l:=by unfold Aa Uw;rw[F];simp
 go_enter Tryz.func200,Tryz.ntmps200
 go_wp2_with (first
  |(go_at_call 241;refine (qwa _ (n-4) (c-4) (l.drop 4) _ E I).mono ?_;rw[F];rintro e J ⟨rfl,rfl⟩)
  |(go_at_call 180;refine (q79 none 0 0 [] (s:Int) 4 _ (Ik _) (by omega)).mono ?_;rw[f];rintro e J ⟨K,O,c3,rfl,d,m⟩))
 go_ret;exact⟨_,_,_,rfl,d,m⟩
def Y7 (l:List UInt8):Bool:=l.all (·==0)
theorem qaz (A:Option Addr)(n c:Nat)(l:List UInt8)(w:World)(f:Sl w A n c l) :
  Calls Tryz.prog 211 #[.slice A n c] w λe J=>e=.returned (.bool (Y7 l))/\w=J:=by
 have O:=f.cap;have hm:=f.max;have E:=f.len;unfold maxLen at hm;go_enter Tryz.func211,Tryz.ntmps211
 go_wp2;go_loop [7] (λi=>∃k:Nat,k<=n/\i=.int .i64 (k:Int)/\∀j<k,Ku l j=0) (λi=>n-(intOf i).toNat)
 case atStart=>exact⟨0,Nat.zero_le _,rfl,λj u=>by omega⟩
 case round=>
  obtain⟨k,P,rfl,d⟩:=hrel;by_cases B:k<n
  ·obtain⟨K,rfl,M,p⟩:=f.cell B;have F:=q96 l k;by_cases h0:Ku l k=0
   ·have m:(Ku l k:Int)=0:=by omega
    go_wp2;exact⟨⟨k+1,by omega,by go_num,λj u=>by by_cases y:j=k;(rw[y];exact h0);exact d j (by omega)⟩,by simp[intOf];omega⟩
   ·have m:¬(Ku l k:Int)=0:=by omega
    have D:Y7 l=false:=by
     cases H:Y7 l
     ·rfl
     ·have:=List.all_eq_true.1 H (l.getD k 0) (by rw[List.getD_eq_getElem?_getD,List.getElem?_eq_getElem (by omega)];simp);simp at this;unfold Ku at h0;rw[List.getD_eq_getElem?_getD,this] at h0;exact absurd rfl h0
    go_wp2;go_ret;exact⟨by first|rfl|(rw[D];rfl),rfl⟩
  ·have G:k=n:=by omega
   have D:Y7 l=true:=by
    refine List.all_eq_true.2 λx I=>?_
    obtain⟨j,u,rfl⟩:=List.getElem_of_mem I;have:=d j (by omega);unfold Ku at this;rw[List.getD_eq_getElem?_getD,List.getElem?_eq_getElem u] at this;simpa using UInt8.toNat_inj.1 this
   go_wp2;go_ret;exact⟨by first|rfl|(rw[D];rfl),rfl⟩
def Yf (h:Hd)(l:List UInt8):List UInt8:=hdB h++(List.replicate 5 0++(l++List.replicate (236-l.length) 0))
def Zn (h:Hd)(l:List UInt8):List UInt8:=Qy (more 0 (Yf h l):Nat) 4++Yf h l
def Xn (h:Hd)(l:List UInt8):Int:=if h.ok=true then if l.length<=236 then 0 else 7 else 1
def Xy (h:Hd)(l:List UInt8):List UInt8:=if h.ok=true then if l.length<=236 then Zn h l else [] else []
theorem q62 (h:Hd):(hdB h).length=11:=by simp[hdB,Xf]
theorem qrt (h:Hd)(l:List UInt8)(d:l.length<=236):(Yf h l).length=252:=by simp[Yf,q62];omega
theorem q95 (h:Hd)(l:List UInt8)(d:l.length<=236):(Zn h l).length=256:=by simp[Zn,qrt h l d,Xf]
def zrs (n:Nat):List UInt8:=List.replicate n 0
theorem q6u {P:Program}{t e:TypeId}(w:World)(T:Ux P t e){f:Array Oper}{d:List Oper}{o:Oper}{a:Act}{Q:Exit->Act->World->Prop}
  (D:o.guard=none) (l c:Operand) (m:o.op=Op.makeSlice t l c) (u kc:IntKind) (n:Nat) (E:a.eval l=.int u (n:Int)) (B:a.eval c=.int kc (n:Int)) (y:n<=281474976710656)
  (A:∀p,Own p w.1.size e (some ⟨w.1.size,0,none⟩) n n (zrs n)->Below w.1.size w p->wpList P f Q d (a.put o.dst (.slice (some ⟨w.1.size,0,none⟩) n n)) p) :
  wpList P f Q (o::d) a w:=qeh w T D l c m u kc n E B y A
theorem qcr {α:Type}(X Y Z C:List α)(k:Nat)(d:X.length=k)(h:Y.length=C.length):splice (X++(Y++Z)) k C=X++(C++Z):=by
 subst d;unfold splice;have e:(X++(Y++Z)).drop (X.length+Y.length)=Z:=by rw[<-List.append_assoc];exact List.drop_left' (by simp)
 rw[List.take_left' rfl,<-h,e]
theorem Qb5 (h:Hd)(l:List UInt8)(m:l.length<=236):splice (splice (zrs 256) 4 (hdB h)) 20 l=List.replicate 4 0++Yf h l:=by
 have e:(zrs 256)=List.replicate 4 0++(List.replicate 11 0++List.replicate 241 0):=by
  unfold zrs;simp only[List.replicate_append_replicate]
 have d:List.replicate 241 (0:UInt8)=List.replicate 5 0++(List.replicate l.length 0++List.replicate (236-l.length) 0):=by
  simp only[List.replicate_append_replicate];congr 1;omega
 rw[e,qcr _ _ _ _ 4 (by simp) (by simp[q62]),d];have f:List.replicate 4 (0:UInt8)++(hdB h++(List.replicate 5 0++(List.replicate l.length 0++List.replicate (236-l.length) 0)))=(List.replicate 4 0++(hdB h++List.replicate 5 0))++(List.replicate l.length 0++List.replicate (236-l.length) 0):=by simp
 rw[f,qcr _ _ _ _ 20 (by simp[q62]) (by simp)];unfold Yf;simp
theorem Qct (h:Hd)(l:List UInt8)(d:l.length<=236):splice (splice (splice (zrs 256) 4 (hdB h)) 20 l) 0 (Uw (splice (splice (zrs 256) 4 (hdB h)) 20 l))=Zn h l:=by
 rw[Qb5 h l d];unfold Uw Zn splice;have e:(List.replicate 4 (0:UInt8)++Yf h l).drop 4=Yf h l:=List.drop_left' (by simp);rw[e,Xf];simp
theorem qve (l:List UInt8):(Uw l).length=4:=by simp[Uw,Xf]
theorem q4n (w:World)(base:Nat)(e:TypeId):Own w base e none 0 0 []:=⟨by simp,.inl ⟨rfl,rfl⟩⟩
theorem q6v (h:Hd)(A:Option Addr)(n c:Nat)(l:List UInt8)(w:World)(U:Sl w A n c l)(Z:Tab w) :
  Calls Tryz.prog 122 #[.agg #[.int .i64 h.kind,.int .i64 h.addr,.int .i64 h.count,.int .i64 h.level,.int .i64 h.gen],.slice A n c] w λe p=>
   ∃A' n' c',e=.returned (.tuple #[.slice A' n' c',.int .i64 (Xn h l)])/\Own p w.1.size 5 A' n' c' (Xy h l)/\(Xn h l=0->∃g,A'=some ⟨g,0,none⟩/\n'=256/\c'=256)/\Below w.1.size w p:=by
 have b7:=U.len;have b6:=U.cap;have hm:=U.max;unfold maxLen at hm;by_cases f:h.ok=true
 ·by_cases J:l.length<=236
  ·have P:Xn h l=0:=by unfold Xn;rw[if_pos f,if_pos J]
   have M:Xy h l=Zn h l:=by unfold Xy;rw[if_pos f,if_pos J]
   rw[P,M];have hn:¬(236:Int)<(n:Int):=by omega
   go_enter Tryz.func122,Tryz.ntmps122
   go_wp2_with (first
    |(go_at_call 198;refine (q3j h _).mono ?_;rw[f];rintro e K ⟨rfl,d⟩)
    |(at_make;refine q6u _ Ig rfl _ _ rfl _ _ 256 rfl rfl (by omega) ?_)
    |fail)
   intro u m y;have I:HB u w.1.size h:=(HB.below ⟨_,heap_alloc_new w _⟩ d (by simp)).below y (by have:=d.size;rw[World.size_alloc] at this;omega);have b5:=d.size;have c6:=y.size;rw[World.size_alloc] at b5;have F:Below w.1.size w u:=(Qk).trans ((d.mono (by simp)).trans (y.mono (by omega)));have b1:=U.below F;have b3:=Z.below F Z.1;have m:=m.less (show w.1.size<=K.1.size by omega);have L2:=Qb5 h l J;have L3:=Qct h l J;have hh:=q62 h;have r0:u.cell? ⟨w.1.size,0,none⟩=some (.int .i64 h.kind):=I.at_ 0;have r1:u.cell? ⟨w.1.size,1,none⟩=some (.int .i64 h.addr):=I.at_ 2;have r2:u.cell? ⟨w.1.size,2,none⟩=some (.int .i64 h.count):=I.at_ 3;have r3:u.cell? ⟨w.1.size,3,none⟩=some (.int .i64 h.level):=I.at_ 1;have r4:u.cell? ⟨w.1.size,4,none⟩=some (.int .i64 h.gen):=I.at_ 4;clear d y I;go_wp2_with fail
   have hS:∀p:World,Below (w.1.size+1) u p->p.cell? ⟨w.1.size,0,none⟩=some (.int .i64 h.kind)/\p.cell? ⟨w.1.size,1,none⟩=some (.int .i64 h.addr)/\p.cell? ⟨w.1.size,2,none⟩=some (.int .i64 h.count)/\
    p.cell? ⟨w.1.size,3,none⟩=some (.int .i64 h.level)/\p.cell? ⟨w.1.size,4,none⟩=some (.int .i64 h.gen)/\Below (w.1.size+1) u p:=λp b=>
    ⟨(b.cell (by show w.1.size<_;omega)).trans r0,(b.cell (by show w.1.size<_;omega)).trans r1,(b.cell (by show w.1.size<_;omega)).trans r2,(b.cell (by show w.1.size<_;omega)).trans r3,(b.cell (by show w.1.size<_;omega)).trans r4,b⟩
   have BD:Below (w.1.size+1) u u.drew:=(Below.refl _ _).drew;go_region_held3 (λp=>p.cell? ⟨w.1.size,0,none⟩=some (.int .i64 h.kind)/\p.cell? ⟨w.1.size,1,none⟩=some (.int .i64 h.addr)/\p.cell? ⟨w.1.size,2,none⟩=some (.int .i64 h.count)/\
    p.cell? ⟨w.1.size,3,none⟩=some (.int .i64 h.level)/\p.cell? ⟨w.1.size,4,none⟩=some (.int .i64 h.gen)/\Below (w.1.size+1) u p)
    (first|assumption|exact hS _ BD|exact hS _ ‹Below (w.1.size+1) u _›)
    (first
     |(go_at_call 199;refine (qn2 h _).mono ?_;rintro e w4 ⟨A4,n4,c4,rfl,W,Q⟩;have b8:=W.len;have a1:Below (w.1.size+1) u w4:=BD.trans (Q.mono (by show _<=u.1.size;omega));have X:=m.drew.below Q)
     |(refine qi9 Ig rfl (.tmp 15) (.tmp 17) rfl w.1.size K.1.size 256 (zrs 256) (by assumption) 4 252 252 rfl _ _ _ (hdB h) rfl (by assumption) (by omega) (by omega) ?_;intro w5 Y a7;have a2:Below (w.1.size+1) u w5:=a1.trans (a7.mono (by omega)))
     |fail)
   have O:Below w.1.size w w5:=F.trans (a2.mono (by omega));have b2:=U.below O;clear b1 b3 W X m r0 r1 r2 r3 r4 hS BD;go_wp2_with (first
    |((with_reducible show wpList _ _ _ _ _ _);refine qay Ig rfl (.tmp 20) (.tmp 21) rfl w.1.size K.1.size 256 _ Y 20 236 236 rfl A n c l rfl b2 (by omega) (by omega) ?_;intro w6 B a8;have G:=O.trans a8;have b4:=Z.below G Z.1)
    |(go_at_call 200;refine (q7z _ 256 256 _ _ B.sl (by omega) b4).mono ?_;rintro e w7 ⟨A7,n7,c7,rfl,D,R⟩;have b9:n7<=4:=(by have h7:=D.len;rw[qve] at h7;omega);have H:=B.below R)
    |((with_reducible show wpList _ _ _ _ _ _);refine qay Ig rfl (.tmp 23) (.tmp 25) rfl w.1.size K.1.size 256 _ H 0 256 256 rfl A7 n7 c7 _ rfl D.sl (by omega) (by omega) ?_;intro w8 E b0;have a6:=G.trans ((R.mono (Below.size G)).trans b0))
    |fail)
   go_ret2;rw[L3] at E;exact⟨_,_,_,rfl,E,λ_=>⟨_,rfl,rfl,rfl⟩,a6⟩
  ·have P:Xn h l=7:=by unfold Xn;rw[if_pos f,if_neg J]
   have M:Xy h l=[]:=by unfold Xy;rw[if_pos f,if_neg J]
   rw[P,M];have hn:(236:Int)<(n:Int):=by omega
   go_enter Tryz.func122,Tryz.ntmps122
   go_wp2_with (first
    |(go_at_call 198;refine (q3j h _).mono ?_;rw[f];rintro e K ⟨rfl,d⟩))
   go_ret2;exact⟨_,_,_,rfl,q4n _ _ _,λh=>by omega,(Qk).trans (d.mono (by simp))⟩
 ·have T:h.ok=false:=by simpa using f
  have P:Xn h l=1:=by unfold Xn;rw[if_neg f]
  have M:Xy h l=[]:=by unfold Xy;rw[if_neg f]
  rw[P,M];go_enter Tryz.func122,Tryz.ntmps122
  go_wp2_with (first
   |(go_at_call 198;refine (q3j h _).mono ?_;rw[T];rintro e K ⟨rfl,d⟩))
  go_ret2;exact⟨_,_,_,rfl,q4n _ _ _,λh=>by omega,(Qk).trans (d.mono (by simp))⟩
