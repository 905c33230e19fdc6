/- Seal's fields, valid, packed, unpacked: the header's five numbers as a block holds them -/
import Derived.Test.YtloolbmdiimanaaGreatDoorGv3
import Derived.Test.YtloolbmdiimanaaGreatDoorGv4
import Derived.BigRegion
import Derived.StillTailTactics
import Derived.Deep.RegionHeld3
import Derived.Laws.CopyOwn
namespace Go.Proofs.YtloolbmdiimanaaGreatDoor
open Go Go.RowKit Go.Proofs Tryz
set_option maxHeartbeats 4000000
set_option maxRecDepth 10000
structure Hd where
 kind:Int
 addr:Int
 count:Int
 level:Int
 gen:Int
def Hd.v (h:Hd):Value:=.agg #[.int .i64 h.kind,.int .i64 h.addr,.int .i64 h.count,.int .i64 h.level,.int .i64 h.gen]
def Hd.zero:Hd:=⟨0,0,0,0,0⟩
def Xv:Nat->Nat|0=>0|1=>3|2=>1|3=>2|_=>4
def Y5:Nat->Int|0=>1|1=>1|2=>2|3=>2|_=>5
def Hu:Nat->Int|0=>1|_=>0
def Ia:Nat->Int|0=>6|1=>8|2=>2047|3=>65535|_=>1099511627775
def Hd.Bf (h:Hd):Nat->Int|0=>h.kind|1=>h.level|2=>h.addr|3=>h.count|_=>h.gen
def Hd.set (h:Hd)(k:Nat)(x:Int):Hd:=match k with
 |0=>{ h with kind:=x }
 |1=>{ h with level:=x }
 |2=>{ h with addr:=x }
 |3=>{ h with count:=x }
 |_=>{ h with gen:=x }
def fv (d k:Nat):Value:=.agg #[.pointer (some ⟨d,Xv k,none⟩),.int .i64 (Y5 k),.int .i64 (Hu k),.int .i64 (Ia k)]
def Dc (d:Nat):LV:=[.pointer (some ⟨d,0,none⟩),.int .i64 1,.int .i64 1,.int .i64 6,.pointer (some ⟨d,3,none⟩),.int .i64 1,.int .i64 0,.int .i64 8,
 .pointer (some ⟨d,1,none⟩),.int .i64 2,.int .i64 0,.int .i64 2047,.pointer (some ⟨d,2,none⟩),.int .i64 2,.int .i64 0,.int .i64 65535,.pointer (some ⟨d,4,none⟩),.int .i64 5,.int .i64 0,.int .i64 1099511627775]
def fvs (d:Nat):Value:=.agg (Dc d).toArray
def HB (w:WD)(d:Nat)(h:Hd):Prop:=∃t,w.1[d]?=some (.cells #[.int .i64 h.kind,.int .i64 h.addr,.int .i64 h.count,.int .i64 h.level,.int .i64 h.gen] t (0,0))
theorem qru (w:WD)(d:Array Value)(t:TypeId):(w.alloc (.cells d t)).there w.1.size 0 d.size:=λj f=>by
 have e:(w.alloc (.cells d t)).1[w.1.size]?=some (.cells d t (0,0)):=BE w _;refine⟨?_,by unfold World.frozen?;rw[e];simp⟩;rw[cell_of_row _ _ _ _ _ _ e,AT,Array.getElem?_eq_getElem f];rfl
theorem q2n {f:Func}{p:Tmp}{ty:TypeId}{g:Addr}{v:Value}{P:Program}{w:WD}{d:Array Value}(h:f.results=#[.cell p ty])(u:d.getD p undef=.pointer (some g))(m:(loadVar ty g).run P w=.ok v w) :
  (results f d).run P w=.ok v w:=by
 have e:(results f d).run P w=((asAddr (d.getD p undef)).run P w).andThen λa y=>(loadVar ty a).run P y:=by
  simp only[results,h];simp[Sem.run_bind,Result.andThen];try rfl
 rw[e,u];simp[asAddr,m]
theorem idx (d k:Nat)(e:k<5)(w:WD):(Instr.index 167 (fvs d) (.int .i64 (k:Int))).run prog w=.ok (fv d k) w:=by
 match k,e with
 |0,_=>show (Instr.index 167 (fvs d) (.int .i64 0)).run prog w=_;kernel_rfl
 |1,_=>show (Instr.index 167 (fvs d) (.int .i64 1)).run prog w=_;kernel_rfl
 |2,_=>show (Instr.index 167 (fvs d) (.int .i64 2)).run prog w=_;kernel_rfl
 |3,_=>show (Instr.index 167 (fvs d) (.int .i64 3)).run prog w=_;kernel_rfl
 |4,_=>show (Instr.index 167 (fvs d) (.int .i64 4)).run prog w=_;kernel_rfl
theorem q89 (d:Nat)(w:WD) :
  Calls prog 93 #[.pointer (some ⟨d,0,none⟩)] w λe A=>e=.returned (fvs d)/\Below w.1.size w A:=by
 go_enter func93,ntmps93
 go_wp2;generalize g:w.alloc _=f;go_still_tail 21,(by kernel_rfl)
 change wpList _ _ _ _ _ f.drew;have m:Below w.1.size w f:=by rw[<-g];exact Ql
 have y:f.drew.there w.1.size 0 20:=by
  show f.there w.1.size 0 20;rw[<-g];exact qru w _ _
 clear g;refine wpList_store_mid rfl _ _ _ rfl w.1.size 0 (Dc d).toArray rfl rfl y (by kernel_rfl) (by simp[Dc,Value.oneCell']) ?_;have u:(f.drew.setCells w.1.size 0 (Dc d)).rangeAt w.1.size 0 (Dc d):=World.rangeAt_setCells_same _ _ _ _ y;have p:Below w.1.size w (f.drew.setCells w.1.size 0 (Dc d)):=m.drew.trans ((Us (S:=λk=>k=w.1.size) rfl (Dc d) 0 f.drew).below (λx D=>by omega) (m.size));change wpList _ _ _ _ _ (f.drew.setCells w.1.size 0 (Dc d));generalize f.drew.setCells w.1.size 0 (Dc d)=B at u p ⊢;go_wp2;refine bodyPost_ret (v:=fvs d) ?_ rfl ⟨rfl,p⟩;exact q2n Tryz.results93 rfl (run_loadVar_mid B w.1.size 0 167 (Dc d) _ u underlying167 rfl (by kernel_rfl))
theorem HB.at_ {w:WD}{bp:Nat}{h:Hd}(H:HB w bp h)(k:Nat):w.cell? ⟨bp,Xv k,none⟩=some (.int .i64 (h.Bf k)):=by
 obtain⟨t,H⟩:=H;rw[cell_of_row _ _ _ _ _ _ H];match k with
 |0=>rfl
 |1=>rfl
 |2=>rfl
 |3=>rfl
 |_+4=>rfl
theorem HB.below {w w':WD}{bp:Nat}{h:Hd}(H:HB w bp h){B:Nat}(hb:Below B w w')(hB:bp<B):HB w' bp h:=by
 obtain⟨t,H⟩:=H;exact⟨t,(hb.block bp hB).trans H⟩
theorem Qbg (d k:Nat)(e:k<5)(w:WD):(Instr.index 167 (fvs d) (.int .i64 (k:Int))).run prog w=.ok (.agg #[.pointer (some ⟨d,Xv k,none⟩),.int .i64 (Y5 k),.int .i64 (Hu k),.int .i64 (Ia k)]) w:=idx d k e w
def Hd.in_ (h:Hd)(k:Nat):Prop:=Hu k<=h.Bf k/\h.Bf k<=Ia k
def Hd.ok (h:Hd):Bool:=decide ((1<=h.kind/\h.kind<=6)/\(0<=h.level/\h.level<=8)/\(0<=h.addr/\h.addr<=2047)/\(0<=h.count/\h.count<=65535)/\0<=h.gen/\h.gen<=1099511627775)
theorem Hd.Qcd (h:Hd)(H:∀j<5,h.in_ j):h.ok=true:=by
 have h0:=H 0 (by omega);have h1:=H 1 (by omega);have h2:=H 2 (by omega);have d:=H 3 (by omega);have e:=H 4 (by omega);exact AL ⟨h0,h1,h2,d,e⟩
theorem Hd.Qax (h:Hd)(H:h.ok=true)(j:Nat)(hj:j<5):h.in_ j:=by
 obtain⟨h0,h1,h2,d,e⟩:=AK H;match j,hj with
 |0,_=>exact h0
 |1,_=>exact h1
 |2,_=>exact h2
 |3,_=>exact d
 |4,_=>exact e
theorem q3v (h:Hd)(w:WD) :
  Calls prog 62 #[.agg #[.int .i64 h.kind,.int .i64 h.addr,.int .i64 h.count,.int .i64 h.level,.int .i64 h.gen]] w λe Z=>e=.returned (.bool h.ok)/\Below w.1.size w Z:=by
 go_enter func62,ntmps62
 go_wp2_with (go_at_call 93;refine (q89 w.1.size _).mono ?_;rintro e P ⟨rfl,p⟩)
 have R:HB P w.1.size h:=HB.below ⟨_,BE w _⟩ p (by simp);have E:Below w.1.size w P:=(Ql).trans (p.mono (by simp));have O:=p.size;rw[BH] at O;go_loopw [6] (λi wr=>∃k:Nat,k<=5/\i=.int .i64 (k:Int)/\(∀j<k,h.in_ j)/\HB wr w.1.size h/\Below w.1.size w wr/\w.1.size<wr.1.size) (λi _=>5-(intOf i).toNat)
 case atStart=>exact⟨0,by omega,rfl,λj T=>by omega,R,E,by omega⟩
 case round=>
  obtain⟨k,hk,rfl,A,H,B,u⟩:=hrel;by_cases D:k<5
  ·have I:=Qbg w.1.size k D;have F:=H.at_ k;have U:(0:Int)<=(k:Int):=by omega
   have G:∀o:Obj,(wr.alloc o).cell? ⟨w.1.size,Xv k,none⟩=some (.int .i64 (h.Bf k)):=λo=>((AI _ _).alloc (AE _) o).cell u |>.trans F
   go_wp2;generalize g:wr.alloc _=d;have f:Below wr.1.size wr d:=by rw[<-g];exact Ql
   have hn:d.1[wr.1.size]?=some (.cells #[.pointer (some ⟨w.1.size,Xv k,none⟩),.int .i64 (Y5 k),.int .i64 (Hu k),.int .i64 (Ia k)] 166 (0,0)):=by rw[<-g];exact BE wr _
   have X:d.1.size=wr.1.size+1:=by rw[<-g];simp
   clear g I;have q0:d.cell? ⟨wr.1.size,0,none⟩=some (.pointer (some ⟨w.1.size,Xv k,none⟩)):=by rw[cell_of_row _ _ _ _ _ _ hn];rfl
   have q2:d.cell? ⟨wr.1.size,2,none⟩=some (.int .i64 (Hu k)):=by rw[cell_of_row _ _ _ _ _ _ hn];rfl
   have q3:d.cell? ⟨wr.1.size,3,none⟩=some (.int .i64 (Ia k)):=by rw[cell_of_row _ _ _ _ _ _ hn];rfl
   have qc:d.cell? ⟨w.1.size,Xv k,none⟩=some (.int .i64 (h.Bf k)):=(f.cell u).trans F;have Q:=H.below f u;have m:=B.trans (f.mono B.size);clear B H F G hn f;generalize Y:h.Bf k=x at *;generalize W:Hu k=lo at *;generalize hm:Ia k=hi at *;by_cases h1:x<lo
   ·have y:h.ok=false:=by
     cases M:h.ok
     ·rfl
     ·have:=(h.Qax M k D).1;omega
    go_quiet (fail)
    go_wp2;go_ret;exact⟨by first|rfl|(rw[y];rfl),q1r m _⟩
   ·have g1:decide (x<lo)=false:=AH h1;by_cases h2:hi<x
    ·have y:h.ok=false:=by
      cases M:h.ok
      ·rfl
      ·have:=(h.Qax M k D).2;omega
     go_quiet (fail)
     go_wp2;go_ret;exact⟨by first|rfl|(rw[y];rfl),q1r m _⟩
    ·have g2:decide (hi<x)=false:=AH h2;go_quiet (fail)
     go_wp2;refine⟨⟨k+1,by omega,rfl,λj T=>?_,Q.below (q1r (AI d.1.size d) _) (by omega),q1r m _,by show w.1.size<d.1.size;omega⟩,by simp[intOf];omega⟩;by_cases J:j=k
     ·rw[J];unfold Hd.in_;rw[Y,W,hm];omega
     ·exact A j (by omega)
  ·have K:k=5:=by omega
   go_wp2;go_ret;exact⟨by rw[h.Qcd (by rw[<-K];exact A)];rfl,B⟩
def hdB (h:Hd):LU:=Q8 h.kind 1++(Q8 h.level 1++(Q8 h.addr 2++(Q8 h.count 2++Q8 h.gen 5)))
def Gg (h:Hd):Nat->LU
 |0=>[]
 |k+1=>Gg h k++Q8 (h.Bf k) (Y5 k).toNat
theorem qv7 (h:Hd)(k:Nat)(d:k<=5):(Gg h k).length<=11:=by
 match k,d with
 |0,_=>simp[Gg]
 |1,_=>simp[Gg,Xz,Y5]
 |2,_=>simp[Gg,Xz,Y5]
 |3,_=>simp[Gg,Xz,Y5]
 |4,_=>simp[Gg,Xz,Y5]
 |5,_=>simp[Gg,Xz,Y5]
theorem qv8 (h:Hd):Gg h 5=hdB h:=by simp[Gg,hdB,Hd.Bf,Y5]
theorem qrv (k:Nat):1<=Y5 k/\Y5 k<=5:=by
 match k with
 |0=>decide
 |1=>decide
 |2=>decide
 |3=>decide
 |_+4=>exact⟨by show (1:Int)<=5;omega,by show (5:Int)<=5;omega⟩
theorem qnj (h:Hd)(w:WD) :
  Calls prog 63 #[.agg #[.int .i64 h.kind,.int .i64 h.addr,.int .i64 h.count,.int .i64 h.level,.int .i64 h.gen]] w λe R=>∃A n c,e=.returned (.slice A n c)/\Sl R A n c (hdB h)/\Below w.1.size w R:=by
 go_enter func63,ntmps63
 go_wp2_with (go_at_call 93;refine (q89 w.1.size _).mono ?_;rintro e T ⟨rfl,u⟩)
 have X:HB T w.1.size h:=HB.below ⟨_,BE w _⟩ u (by simp);have F:Below w.1.size w T:=(Ql).trans (u.mono (by simp));have O:=u.size;rw[BH] at O;go_loopw [3,7] (λs i wr=>∃(k:Nat) (A:OA) (n c:Nat),k<=5/\s=.slice A n c/\i=.int .i64 (k:Int)/\Sl wr A n c (Gg h k)/\HB wr w.1.size h/\Below w.1.size w wr/\w.1.size<wr.1.size) (λ_ i _=>5-(intOf i).toNat)
 case atStart=>exact⟨0,none,0,0,by omega,rfl,rfl,G6 _,X,F,by omega⟩
 case round=>
  obtain⟨k,A,n,c,hk,rfl,rfl,D,H,E,B⟩:=hrel;by_cases Y:k<5
  ·have I:=Qbg w.1.size k Y;have P:=H.at_ k;have a0:(0:Int)<=(k:Int):=by omega
   go_wp2;generalize m:wr.alloc _=p;have d:Below wr.1.size wr p:=by rw[<-m];exact Ql
   have hn:p.1[wr.1.size]?=some (.cells #[.pointer (some ⟨w.1.size,Xv k,none⟩),.int .i64 (Y5 k),.int .i64 (Hu k),.int .i64 (Ia k)] 166 (0,0)):=by rw[<-m];exact BE wr _
   have a2:p.1.size=wr.1.size+1:=by rw[<-m];simp
   clear m I;have q0:p.cell? ⟨wr.1.size,0,none⟩=some (.pointer (some ⟨w.1.size,Xv k,none⟩)):=by rw[cell_of_row _ _ _ _ _ _ hn];rfl
   have q1:p.cell? ⟨wr.1.size,1,none⟩=some (.int .i64 (Y5 k)):=by rw[cell_of_row _ _ _ _ _ _ hn];rfl
   have qc:p.cell? ⟨w.1.size,Xv k,none⟩=some (.int .i64 (h.Bf k)):=(d.cell B).trans P;have W:=H.below d B;have M:=D.below d;have y:=E.trans (d.mono E.size);have Q:=D.len;have a1:=qv7 h k hk;have Z:=qrv k;have K:G5 (Gg h k) (h.Bf k) (Y5 k)=Gg h (k+1):=by unfold G5;rw[AA (by omega)];rfl
   clear E H P hn d D;go_still_tail 7,(by kernel_rfl)
   change wpList _ _ _ _ _ p.drew;go_wp2_with (go_at_call 65;refine (q7r A n c (Gg h k) (h.Bf k) (Y5 k) _ M.drew (by omega)).mono ?_;rintro e w3 ⟨U,n3,c3,rfl,g,G⟩)
   rw[K] at g;have f:Below p.1.size p w3:=(AI _ _).drew.trans G;exact⟨⟨k+1,U,n3,c3,by omega,rfl,rfl,g.sl,W.below f (by omega),y.trans (f.mono y.size),by have:=f.size;omega⟩,by simp[intOf];omega⟩
  ·have J:k=5:=by omega
   go_wp2;go_ret;rw[J,qv8] at D;exact⟨A,n,c,rfl,D,E⟩
def Ur:Nat->Nat|0=>0|1=>1|2=>2|3=>4|4=>6|_=>11
def rdF (l:LU)(k:Nat):Nat:=Qq ((l.drop (Ur k)).take (Y5 k).toNat)
def Qbk (l:LU):Nat->Hd
 |0=>Hd.zero
 |k+1=>(Qbk l k).set k (rdF l k)
def Gu (l:LU):Hd:=⟨Qq (l.take 1),Qq ((l.drop 2).take 2),Qq ((l.drop 4).take 2),Qq ((l.drop 1).take 1),Qq ((l.drop 6).take 5)⟩
theorem qv9 (l:LU):Qbk l 5=Gu l:=rfl
theorem qrw (k:Nat)(d:k<5):Ur (k+1)=Ur k+(Y5 k).toNat:=by
 match k,d with
 |0,_=>rfl
 |1,_=>rfl
 |2,_=>rfl
 |3,_=>rfl
 |4,_=>rfl
theorem qxv (k:Nat)(d:k<=5):Ur k<=11:=by
 match k,d with
 |0,_=>decide
 |1,_=>decide
 |2,_=>decide
 |3,_=>decide
 |4,_=>decide
 |5,_=>decide
theorem HB.G7 {w:WD}{bp:Nat}{h:Hd}(H:HB w bp h)(k:Nat)(x:Int):HB (w.setCell ⟨bp,Xv k,none⟩ (.int .i64 x)) bp (h.set k x):=by
 obtain⟨t,H⟩:=H;refine⟨t,(heap_setCell_same w bp (Xv k) _ t (.int .i64 x) H).trans ?_⟩;match k with
 |0=>rfl
 |1=>rfl
 |2=>rfl
 |3=>rfl
 |_+4=>rfl
theorem HB.fz {w:WD}{bp:Nat}{h:Hd}(H:HB w bp h)(k:Nat):w.frozen? ⟨bp,Xv k,none⟩=false:=by
 obtain⟨t,H⟩:=H;unfold World.frozen?;rw[H];simp
theorem HB.zero (w:WD)(t:TypeId):HB (w.alloc (.cells #[.int .i64 0,.int .i64 0,.int .i64 0,.int .i64 0,.int .i64 0] t)) w.1.size Hd.zero:=⟨t,BE w _⟩
theorem Own.turn {w w':WD}{base n c:Nat}{e:TypeId}{A:OA}{l:LU}(h:Own w base e A n c l)(hk:∀g,base<=g->g<w.1.size->w'.1[g]?=w.1[g]?):Own w' base e A n c l:=by
 refine⟨h.1,?_⟩;rcases h.2 with f|⟨g,cap,d,f,h1,m,r⟩
 ·exact .inl f
 ·exact .inr ⟨g,cap,d,f,h1,(hk g h1 (Array.getElem?_eq_some_iff.1 m).1).trans m,r⟩
def Hd.vs (h:Hd):LV:=[.int .i64 h.kind,.int .i64 h.addr,.int .i64 h.count,.int .i64 h.level,.int .i64 h.gen]
theorem HB.range {w:WD}{bp:Nat}{h:Hd}(H:HB w bp h):w.rangeAt bp 0 h.vs:=λj v d=>by
 obtain⟨t,H⟩:=H;rw[cell_of_row _ _ _ _ _ _ H,AT];simpa [Hd.vs] using d
theorem HB.there {w:WD}{bp:Nat}{h:Hd}(H:HB w bp h):w.there bp 0 5:=λj d=>by
 obtain⟨t,H⟩:=H;refine⟨?_,by unfold World.frozen?;rw[H];simp⟩;rw[cell_of_row _ _ _ _ _ _ H,AT,Array.getElem?_eq_getElem (by simpa using d)];rfl
theorem q8a {e:Array Oper}{d:List Oper}{o:Oper}{a:Act}{w:WD}{Q:Exit->Act->WD->Prop}(m:o.guard=none)(x:Operand)(f:o.op=Op.load 94 x)
  (b:Nat) (p:a.eval x=.pointer (some ⟨b,0,none⟩)) (h:Hd) (H:HB w b h) (g:wpList prog e Q d (a.put o.dst h.v) w):wpList prog e Q (o::d) a w:=
 wpList_load_mid m _ x f b 0 p h.vs _ H.range underlying94 rfl (by kernel_rfl) g
theorem D5 {e:Array Oper}{d:List Oper}{o:Oper}{a:Act}{w:WD}{Q:Exit->Act->WD->Prop}(u:o.guard=none)(x y:Operand)(g:o.op=Op.store 94 x y)
  (b:Nat) (m:a.eval x=.pointer (some ⟨b,0,none⟩)) (h h0:Hd) (A:a.eval y=h.v) (H:HB w b h0) (E:b<w.1.size)
  (p:∀f,f.rangeAt b 0 h.vs->(∀B,B<=b->Below B w f)->Turn (λk=>k=b) w f->wpList prog e Q d (a.put o.dst undef) f):wpList prog e Q (o::d) a w:=
 wpList_store_mid u _ x y g b 0 h.vs.toArray m A H.there (by kernel_rfl) (by simp[Hd.vs,Value.oneCell'])
  (p _ (World.rangeAt_setCells_same _ _ _ _ H.there) (λB D=>(Us (S:=λk=>k=b) rfl h.vs 0 w).below (λx m=>by omega) (by omega)) (Us (S:=λk=>k=b) rfl h.vs 0 w))
theorem q50 (A:OA)(c:Nat)(l:LU)(w:WD)(hs:Sl w A 11 c l) :
  Calls prog 100 #[.slice A 11 c] w λe f=>e=.returned (Gu l).v/\Below w.1.size w f:=by
 go_enter func100,ntmps100
 go_wp2_with (go_at_call 93;refine (q89 (w.1.size+1) _).mono ?_;rintro e w2 ⟨rfl,m⟩)
 have a3:=m.size;simp only[BH] at a3 m;have G:Below w.1.size w w2:=(((AI _ w).alloc (AE _) _).alloc (by simp) _).trans (m.mono (by omega));have hR:HB w2 w.1.size Hd.zero:=((HB.zero w _).below (Ql) (by simp)).below m (by omega);have hH:HB w2 (w.1.size+1) Hd.zero:=by
  have:=HB.zero (w.alloc (.cells #[.int .i64 0,.int .i64 0,.int .i64 0,.int .i64 0,.int .i64 0] 94)) 94;rw[BH] at this;exact this.below m (by omega)
 clear m;have hl:=hs.len;go_loopw [0,7] (λs i wr=>∃(k:Nat) (A:OA) (c:Nat),k<=5/\s=.slice A (11-Ur k) c/\i=.int .i64 (k:Int)/\Sl wr A (11-Ur k) c (l.drop (Ur k))/\HB wr w.1.size Hd.zero/\HB wr (w.1.size+1) (Qbk l k)/\Below w.1.size w wr/\w.1.size+2<=wr.1.size) (λ_ i _=>5-(intOf i).toNat)
 case atStart=>exact⟨0,A,c,by omega,rfl,rfl,by simpa [Ur] using hs.below G,hR,hH,G,by omega⟩
 case round=>
  obtain⟨k,A1,c1,hk,rfl,rfl,K,E,H,O,a6⟩:=hrel;by_cases h5:k<5
  ·have X:=Qbg (w.1.size+1) k h5;have a5:(0:Int)<=(k:Int):=by omega
   go_wp2;generalize D:wr.alloc _=d;have y:Below wr.1.size wr d:=by rw[<-D];exact Ql
   have hn:d.1[wr.1.size]?=some (.cells #[.pointer (some ⟨w.1.size+1,Xv k,none⟩),.int .i64 (Y5 k),.int .i64 (Hu k),.int .i64 (Ia k)] 166 (0,0)):=by rw[<-D];exact BE wr _
   have a8:d.1.size=wr.1.size+1:=by rw[<-D];simp
   clear D X;have q0:d.cell? ⟨wr.1.size,0,none⟩=some (.pointer (some ⟨w.1.size+1,Xv k,none⟩)):=by rw[cell_of_row _ _ _ _ _ _ hn];rfl
   have q1:d.cell? ⟨wr.1.size,1,none⟩=some (.int .i64 (Y5 k)):=by rw[cell_of_row _ _ _ _ _ _ hn];rfl
   have H1:=H.below y (by omega);have Q:=E.below y (by omega);have a2:=K.below y;have F:=O.trans (y.mono O.size);have a0:=qrw k h5;have a7:=qxv (k+1) (by omega);have a4:=qrv k;have W:(l.drop (Ur k)).drop (Y5 k).toNat=l.drop (Ur (k+1)):=by rw[List.drop_drop,a0]
   have a1:(Qq ((l.drop (Ur k)).take (Y5 k).toNat):Int)=(rdF l k:Int):=rfl;clear O H hn y K E;have HT:=λ(f:WD) (h':Sl f A1 (11-Ur k) c1 (l.drop (Ur k)))=>q4a A1 (11-Ur k) c1 (l.drop (Ur k)) (Y5 k) f h' (by omega) (by omega) (by omega) (by omega)
   rw[W,a1] at HT;have R:∀f:WD,Turn (λk=>k=w.1.size+1) d f->f.cell? ⟨wr.1.size,0,none⟩=some (.pointer (some ⟨w.1.size+1,Xv k,none⟩))/\f.cell? ⟨wr.1.size,1,none⟩=some (.int .i64 (Y5 k))/\Turn (λk=>k=w.1.size+1) d f:=λf T=>⟨(AY (T.block wr.1.size (by omega) (by show ¬(wr.1.size=w.1.size+1);omega))).trans q0,(AY (T.block wr.1.size (by omega) (by show ¬(wr.1.size=w.1.size+1);omega))).trans q1,T⟩
   have TD:Turn (λk=>k=w.1.size+1) d d.drew:=Zb (AI _ _).drew;go_region_held3 (λf=>f.cell? ⟨wr.1.size,0,none⟩=some (.pointer (some ⟨w.1.size+1,Xv k,none⟩))/\f.cell? ⟨wr.1.size,1,none⟩=some (.int .i64 (Y5 k))/\Turn (λk=>k=w.1.size+1) d f)
    (first|assumption|exact R _ TD|(go_split_ands;exact R _ (Turn.then ‹Turn (λk=>k=w.1.size+1) d _› (Zb ‹Below (World.heap _).size _ _›)))|(go_split_ands;exact R _ (Turn.then ‹Turn (λk=>k=w.1.size+1) d _› (Cc _ rfl))))
    (first
     |(go_at_call 54;refine (HT _ a2.drew).mono ?_;rintro e M ⟨A3,n3,c3,rfl,B,U⟩;have u:Below d.1.size d M:=(AI _ d).drew.trans U;have P:=H1.below u (by omega);have q5:=P.at_ k;have q6:=P.fz k)
     |fail)
   have Z:n3=11-Ur (k+1):=by have:=B.len;rw[AS,hl] at this;omega
   subst Z;go_wp2;have I:Below (w.1.size+1) M (M.setCell ⟨w.1.size+1,Xv k,none⟩ (.int .i64 (rdF l k:Int))):=(AI _ M).setCell (p:=⟨w.1.size+1,Xv k,none⟩) (AE _) _;have a9:=u.size;refine⟨⟨k+1,A3,c3,by omega,rfl,rfl,?_,(Q.below u (by omega)).below I (by omega),P.G7 k _,(F.trans (u.mono F.size)).trans (I.mono (by omega)),by show w.1.size+2<=(M.setCell _ _).1.size;rw[World.size_setCell];omega⟩,by simp[intOf];omega⟩;exact (B.turn λg hg _=>Below.heap_setCell _ _ _ _ (by show g≠w.1.size+1;have h1:d.drew.1.size=d.1.size:=rfl;omega)).sl
  ·have Y:k=5:=by omega
   go_wp2_with (first
    |(refine q8a rfl _ rfl _ rfl _ H ?_)
    |(refine D5 rfl _ _ rfl _ rfl _ _ rfl E (by omega) ?_;intro w4 J u _))
   refine bodyPost_ret (v:=(Gu l).v) ?_ rfl ⟨rfl,?_⟩
   ·rw[Y,qv9] at J;exact q2n Tryz.results100 rfl (run_loadVar_mid _ w.1.size 0 94 _ _ J underlying94 rfl (by kernel_rfl))
   ·exact O.trans (u _ (AE _))
theorem qdi {α β:Type}(f:α->β)(L:List α)(o:Nat)(d:List α):splice (L.map f) o (d.map f)=(splice L o d).map f:=by simp[splice]
theorem Own.whole {w:WD}{base n g:Nat}{e:TypeId}{l:LU}(h:Own w base e (some ⟨g,0,none⟩) n n l):base<=g/\w.1[g]?=some (.cells (l.map bv).toArray e (0,0))/\n<=maxLen:=by
 rcases h.2 with⟨f,_⟩|⟨E,cap,m,f,A,B,h1,h2,u,y⟩
 ·injection f with d;cases d
 ·injection f with d D p;injection d with d;injection d with d;subst d;subst p;refine⟨A,?_,h2⟩;rw[<-y,AN (by simp[u])];exact B
theorem Own.of_whole {w:WD}{base n g:Nat}{e:TypeId}{l:LU}(hb:base<=g)(hg:w.1[g]?=some (.cells (l.map bv).toArray e (0,0)))(hl:l.length=n)(hm:n<=maxLen):Own w base e (some ⟨g,0,none⟩) n n l:=
 ⟨by simpa using hl,.inr ⟨g,n,_,rfl,hb,hg,AE _,hm,by simpa using hl,by rw[AN (by simp[hl])]⟩⟩
theorem q51 {P:Program}{t e:TypeId}(T:Vx P t e){w:WD}{E:Array Oper}{y:List Oper}{o:Oper}{a:Act}{Q:Exit->Act->WD->Prop}(I:o.guard=none)(d s:Operand)
  (ho:o.op=.call { callee:=.builtin .copy,args:=#[d,s],argTypes:=#[t,t] })
  (base g n:Nat) (l:LU) (u:Own w base e (some ⟨g,0,none⟩) n n l) (off p A:Nat) (hd:a.eval d=.slice (some ⟨g,off,none⟩) p A)
  (B:OA) (m c:Nat) (O:LU) (hs:a.eval s=.slice B m c) (K:Sl w B m c O) (J:m<=p) (U:off+m<=n)
  (Y:∀F,Own F base e (some ⟨g,0,none⟩) n n (splice l off O)->Below base w F->wpList P E Q y (a.put o.dst (goInt m)) F):wpList P E Q (o::y) a w:=by
 obtain⟨i,hi,a0,M,a1⟩:=info_parts T.info;obtain⟨R,hg,hm⟩:=u.whole;have hl:=u.len;have D:=K.len;refine wpList_copy_splice I d s t t ho e T.sl (by rw[hi];simp[M]) _ _ _ _ _ _ hd hs g off (l.map bv) e hg (O.map bv) (by rw[AF,D];exact (Nat.min_eq_left J).symm) (λh0=>?_) (by simp;omega) (qf8 _) base w (AI _ _) R ?_
 ·rw[AF] at h0;obtain⟨W,rfl,_⟩:=K.cell (k:=0) (by omega);refine⟨rfl,W,rfl,λj v hv=>?_⟩;obtain⟨X,G,_,Z⟩:=K.2.2.2 j v hv;injection G with G;subst G;exact Z
 ·intro F f H;have f:=f.out;rw[qdi] at f;have:=Y F (Own.of_whole R f (by rw[length_splice _ _ _ (by omega),hl]) hm) H;rw[AF,D];exact this
theorem qj2 {P:Program}{t e:TypeId}(T:Vx P t e){w:WD}{R:Array Oper}{o:Oper}{a:Act}{K:Act->WD->Prop}{Q:Exit->Act->WD->Prop}{E:Prop}(H:o.guard=none)(d s:Operand)
  (ho:o.op=.call { callee:=.builtin .copy,args:=#[d,s],argTypes:=#[t,t] })
  (base g n:Nat) (l:LU) (u:Own w base e (some ⟨g,0,none⟩) n n l) (off p y:Nat) (hd:a.eval d=.slice (some ⟨g,off,none⟩) p y)
  (B:OA) (m c:Nat) (O:LU) (hs:a.eval s=.slice B m c) (J:Sl w B m c O) (I:m<=p) (U:off+m<=n)
  (Y:∀D,Own D base e (some ⟨g,0,none⟩) n n (splice l off O)->Below g w D->K (a.put o.dst (goInt m)) D):if Region.wanted o (yielded R a.tmps)=true then Oper.wp P o a w K Q else E:=by
 obtain⟨i,hi,a0,M,a1⟩:=info_parts T.info;obtain⟨Z,hg,hm⟩:=u.whole;have hl:=u.len;have A:=J.len;refine step_copy_splice H d s t t ho e T.sl (by rw[hi];simp[M]) _ _ _ _ _ _ hd hs g off (l.map bv) e hg (O.map bv) (by rw[AF,A];exact (Nat.min_eq_left I).symm) (λh0=>?_) (by simp;omega) (qf8 _) g w (AI _ _) (AE _) ?_
 ·rw[AF] at h0;obtain⟨W,rfl,_⟩:=J.cell (k:=0) (by omega);refine⟨rfl,W,rfl,λj v hv=>?_⟩;obtain⟨X,F,_,hc⟩:=J.2.2.2 j v hv;injection F with F;subst F;exact hc
 ·intro D f G;have f:=f.out;rw[qdi] at f;have:=Y D (Own.of_whole Z f (by rw[length_splice _ _ _ (by omega),hl]) hm) G;rw[AF,A];exact this
def Ux (l:LU):LU:=Q8 (more 0 (l.drop 4):Nat) 4
theorem q8b (A:OA)(n c:Nat)(l:LU)(w:WD)(u:Sl w A n c l)(hn:5<=n)(H:Tab w) :
  Calls prog 64 #[.slice A n c] w λe G=>∃y F B,e=.returned (.slice y F B)/\Own G w.1.size 5 y F B (Ux l)/\Below w.1.size w G:=by
 have K:=u.cap;have hm:=u.max;unfold maxLen at hm;have D:=u.drop (k:=4) (by omega);have m:¬c=4:=by omega
 rw[AB m] at D;have p:=qw6 0 (l.drop 4);generalize E:more 0 (l.drop 4)=s at p;have f:G5 [] (s:Int) 4=Ux l:=by unfold G5 Ux;rw[E];simp
 go_enter func64,ntmps64
 go_wp2_with (first
  |(go_at_call 94;refine (qw8 _ (n-4) (c-4) (l.drop 4) _ D H).mono ?_;rw[E];rintro e I ⟨rfl,rfl⟩)
  |(go_at_call 65;refine (q7r none 0 0 [] (s:Int) 4 _ (G6 _) (by omega)).mono ?_;rw[f];rintro e I ⟨J,M,c3,rfl,d,g⟩))
 go_ret;exact⟨_,_,_,rfl,d,g⟩
def Yc (l:LU):Bool:=l.all (·==0)
theorem qbi (A:OA)(n c:Nat)(l:LU)(w:WD)(f:Sl w A n c l) :
  Calls prog 101 #[.slice A n c] w λe I=>e=.returned (.bool (Yc l))/\w=I:=by
 have M:=f.cap;have hm:=f.max;have D:=f.len;unfold maxLen at hm;go_enter func101,ntmps101
 go_wp2;go_loop [7] (λi=>∃k:Nat,k<=n/\i=.int .i64 (k:Int)/\∀j<k,Xr l j=0) (λi=>n-(intOf i).toNat)
 case atStart=>exact⟨0,AW _,rfl,λj p=>by omega⟩
 case round=>
  obtain⟨k,O,rfl,d⟩:=hrel;by_cases y:k<n
  ·obtain⟨J,rfl,K,m⟩:=f.cell y;have E:=q8h l k;by_cases h0:Xr l k=0
   ·have g:(Xr l k:Int)=0:=by omega
    go_wp2;exact⟨⟨k+1,by omega,by go_num,λj p=>by by_cases u:j=k;(rw[u];exact h0);exact d j (by omega)⟩,by simp[intOf];omega⟩
   ·have g:¬(Xr l k:Int)=0:=by omega
    have B:Yc l=false:=by
     cases G:Yc l
     ·rfl
     ·have:=List.all_eq_true.1 G (l.getD k 0) (by rw[AG,AC (by omega)];simp);simp at this;unfold Xr at h0;rw[AG,this] at h0;exact absurd rfl h0
    go_wp2;go_ret;exact⟨by first|rfl|(rw[B];rfl),rfl⟩
  ·have F:k=n:=by omega
   have B:Yc l=true:=by
    refine List.all_eq_true.2 λx H=>?_
    obtain⟨j,p,rfl⟩:=List.getElem_of_mem H;have:=d j (by omega);unfold Xr at this;rw[AG,AC p] at this;simpa using UInt8.toNat_inj.1 this
   go_wp2;go_ret;exact⟨by first|rfl|(rw[B];rfl),rfl⟩
def Yi (h:Hd)(l:LU):LU:=hdB h++(List.replicate 5 0++(l++List.replicate (236-l.length) 0))
def Zk (h:Hd)(l:LU):LU:=Q8 (more 0 (Yi h l):Nat) 4++Yi h l
def Xb (h:Hd)(l:LU):Int:=if h.ok=true then if l.length<=236 then 0 else 7 else 1
def Xi (h:Hd)(l:LU):LU:=if h.ok=true then if l.length<=236 then Zk h l else [] else []
theorem q6e (h:Hd):(hdB h).length=11:=by simp[hdB,Xz]
theorem qrx (h:Hd)(l:LU)(d:l.length<=236):(Yi h l).length=252:=by simp[Yi,q6e];omega
theorem q9m (h:Hd)(l:LU)(d:l.length<=236):(Zk h l).length=256:=by simp[Zk,qrx h l d,Xz]
def zrs (n:Nat):LU:=List.replicate n 0
theorem q7a {P:Program}{t e:TypeId}(w:WD)(T:Vx P t e){f:Array Oper}{d:List Oper}{o:Oper}{a:Act}{Q:Exit->Act->WD->Prop}
  (B:o.guard=none) (l c:Operand) (g:o.op=Op.makeSlice t l c) (p kc:IntKind) (n:Nat) (D:a.eval l=.int p (n:Int)) (A:a.eval c=.int kc (n:Int)) (u:n<=281474976710656)
  (y:∀m,Own m w.1.size e (some ⟨w.1.size,0,none⟩) n n (zrs n)->Below w.1.size w m->wpList P f Q d (a.put o.dst (.slice (some ⟨w.1.size,0,none⟩) n n)) m) :
  wpList P f Q (o::d) a w:=q9w w T B l c g p kc n D A u y
theorem qdj {α:Type}(X Y Z C:List α)(k:Nat)(d:X.length=k)(h:Y.length=C.length):splice (X++(Y++Z)) k C=X++(C++Z):=by
 subst d;unfold splice;have e:(X++(Y++Z)).drop (X.length+Y.length)=Z:=by rw[<-AM];exact List.drop_left' (by simp)
 rw[List.take_left' rfl,<-h,e]
theorem Qb8 (h:Hd)(l:LU)(g:l.length<=236):splice (splice (zrs 256) 4 (hdB h)) 20 l=List.replicate 4 0++Yi h l:=by
 have e:(zrs 256)=List.replicate 4 0++(List.replicate 11 0++List.replicate 241 0):=by
  unfold zrs;simp only[List.replicate_append_replicate]
 have d:List.replicate 241 (0:UInt8)=List.replicate 5 0++(List.replicate l.length 0++List.replicate (236-l.length) 0):=by
  simp only[List.replicate_append_replicate];congr 1;omega
 rw[e,qdj _ _ _ _ 4 (by simp) (by simp[q6e]),d];have f:List.replicate 4 (0:UInt8)++(hdB h++(List.replicate 5 0++(List.replicate l.length 0++List.replicate (236-l.length) 0)))=(List.replicate 4 0++(hdB h++List.replicate 5 0))++(List.replicate l.length 0++List.replicate (236-l.length) 0):=by simp
 rw[f,qdj _ _ _ _ 20 (by simp[q6e]) (by simp)];unfold Yi;simp
theorem Qcy (h:Hd)(l:LU)(d:l.length<=236):splice (splice (splice (zrs 256) 4 (hdB h)) 20 l) 0 (Ux (splice (splice (zrs 256) 4 (hdB h)) 20 l))=Zk h l:=by
 rw[Qb8 h l d];unfold Ux Zk splice;have e:(List.replicate 4 (0:UInt8)++Yi h l).drop 4=Yi h l:=List.drop_left' (by simp);rw[e,Xz];simp
theorem qva (l:LU):(Ux l).length=4:=by simp[Ux,Xz]
theorem q2x (w:WD)(base:Nat)(e:TypeId):Own w base e none 0 0 []:=⟨by simp,.inl ⟨rfl,rfl⟩⟩
theorem q5p (h:Hd)(A:OA)(n c:Nat)(l:LU)(w:WD)(U:Sl w A n c l)(Z:Tab w) :
  Calls prog 37 #[.agg #[.int .i64 h.kind,.int .i64 h.addr,.int .i64 h.count,.int .i64 h.level,.int .i64 h.gen],.slice A n c] w λe p=>
   ∃A' n' c',e=.returned (.tuple #[.slice A' n' c',.int .i64 (Xb h l)])/\Own p w.1.size 5 A' n' c' (Xi h l)/\(Xb h l=0->∃g,A'=some ⟨g,0,none⟩/\n'=256/\c'=256)/\Below w.1.size w p:=by
 have b2:=U.len;have b1:=U.cap;have hm:=U.max;unfold maxLen at hm;by_cases f:h.ok=true
 ·by_cases J:l.length<=236
  ·have P:Xb h l=0:=by unfold Xb;rw[AA f,AA J]
   have M:Xi h l=Zk h l:=by unfold Xi;rw[AA f,AA J]
   rw[P,M];have hn:¬(236:Int)<(n:Int):=by omega
   go_enter func37,ntmps37
   go_wp2_with (first
    |(go_at_call 62;refine (q3v h _).mono ?_;rw[f];rintro e K ⟨rfl,d⟩)
    |(at_make;refine q7a _ Cb rfl _ _ rfl _ _ 256 rfl rfl (by omega) ?_)
    |fail)
   intro u m y;have I:HB u w.1.size h:=(HB.below ⟨_,BE w _⟩ d (by simp)).below y (by have:=d.size;rw[BH] at this;omega);have b0:=d.size;have b5:=y.size;rw[BH] at b0;have F:Below w.1.size w u:=(Ql).trans ((d.mono (by simp)).trans (y.mono (by omega)));have a6:=U.below F;have a8:=Z.below F Z.1;have m:=m.less (show w.1.size<=K.1.size by omega);have L2:=Qb8 h l J;have L3:=Qcy h l J;have hh:=q6e h;have r0:u.cell? ⟨w.1.size,0,none⟩=some (.int .i64 h.kind):=I.at_ 0;have r1:u.cell? ⟨w.1.size,1,none⟩=some (.int .i64 h.addr):=I.at_ 2;have r2:u.cell? ⟨w.1.size,2,none⟩=some (.int .i64 h.count):=I.at_ 3;have r3:u.cell? ⟨w.1.size,3,none⟩=some (.int .i64 h.level):=I.at_ 1;have r4:u.cell? ⟨w.1.size,4,none⟩=some (.int .i64 h.gen):=I.at_ 4;clear d y I;go_wp2_with fail
   have hS:∀p:WD,Below (w.1.size+1) u p->p.cell? ⟨w.1.size,0,none⟩=some (.int .i64 h.kind)/\p.cell? ⟨w.1.size,1,none⟩=some (.int .i64 h.addr)/\p.cell? ⟨w.1.size,2,none⟩=some (.int .i64 h.count)/\
    p.cell? ⟨w.1.size,3,none⟩=some (.int .i64 h.level)/\p.cell? ⟨w.1.size,4,none⟩=some (.int .i64 h.gen)/\Below (w.1.size+1) u p:=λp b=>
    ⟨(b.cell (by show w.1.size<_;omega)).trans r0,(b.cell (by show w.1.size<_;omega)).trans r1,(b.cell (by show w.1.size<_;omega)).trans r2,(b.cell (by show w.1.size<_;omega)).trans r3,(b.cell (by show w.1.size<_;omega)).trans r4,b⟩
   have BD:Below (w.1.size+1) u u.drew:=(AI _ _).drew;go_region_held3 (λp=>p.cell? ⟨w.1.size,0,none⟩=some (.int .i64 h.kind)/\p.cell? ⟨w.1.size,1,none⟩=some (.int .i64 h.addr)/\p.cell? ⟨w.1.size,2,none⟩=some (.int .i64 h.count)/\
    p.cell? ⟨w.1.size,3,none⟩=some (.int .i64 h.level)/\p.cell? ⟨w.1.size,4,none⟩=some (.int .i64 h.gen)/\Below (w.1.size+1) u p)
    (first|assumption|exact hS _ BD|exact hS _ ‹Below (w.1.size+1) u _›)
    (first
     |(go_at_call 63;refine (qnj h _).mono ?_;rintro e w4 ⟨A4,n4,c4,rfl,W,Q⟩;have b3:=W.len;have a0:Below (w.1.size+1) u w4:=BD.trans (Q.mono (by show _<=u.1.size;omega));have X:=m.drew.below Q)
     |(refine qj2 Cb rfl (.tmp 15) (.tmp 17) rfl w.1.size K.1.size 256 (zrs 256) (by assumption) 4 252 252 rfl _ _ _ (hdB h) rfl (by assumption) (by omega) (by omega) ?_;intro w5 Y a3;have a1:Below (w.1.size+1) u w5:=a0.trans (a3.mono (by omega)))
     |fail)
   have O:Below w.1.size w w5:=F.trans (a1.mono (by omega));have a7:=U.below O;clear a6 a8 W X m r0 r1 r2 r3 r4 hS BD;go_wp2_with (first
    |((with_reducible show wpList _ _ _ _ _ _);refine q51 Cb rfl (.tmp 20) (.tmp 21) rfl w.1.size K.1.size 256 _ Y 20 236 236 rfl A n c l rfl a7 (by omega) (by omega) ?_;intro w6 B a4;have G:=O.trans a4;have a9:=Z.below G Z.1)
    |(go_at_call 64;refine (q8b _ 256 256 _ _ B.sl (by omega) a9).mono ?_;rintro e w7 ⟨A7,n7,c7,rfl,D,R⟩;have b4:n7<=4:=(by have h7:=D.len;rw[qva] at h7;omega);have H:=B.below R)
    |((with_reducible show wpList _ _ _ _ _ _);refine q51 Cb rfl (.tmp 23) (.tmp 25) rfl w.1.size K.1.size 256 _ H 0 256 256 rfl A7 n7 c7 _ rfl D.sl (by omega) (by omega) ?_;intro w8 E a5;have a2:=G.trans ((R.mono (Below.size G)).trans a5))
    |fail)
   go_ret2;rw[L3] at E;exact⟨_,_,_,rfl,E,λ_=>⟨_,rfl,rfl,rfl⟩,a2⟩
  ·have P:Xb h l=7:=by unfold Xb;rw[AA f,AB J]
   have M:Xi h l=[]:=by unfold Xi;rw[AA f,AB J]
   rw[P,M];have hn:(236:Int)<(n:Int):=by omega
   go_enter func37,ntmps37
   go_wp2_with (first
    |(go_at_call 62;refine (q3v h _).mono ?_;rw[f];rintro e K ⟨rfl,d⟩))
   go_ret2;exact⟨_,_,_,rfl,q2x _ _ _,λh=>by omega,(Ql).trans (d.mono (by simp))⟩
 ·have T:h.ok=false:=by simpa using f
  have P:Xb h l=1:=by unfold Xb;rw[AB f]
  have M:Xi h l=[]:=by unfold Xi;rw[AB f]
  rw[P,M];go_enter func37,ntmps37
  go_wp2_with (first
   |(go_at_call 62;refine (q3v h _).mono ?_;rw[T];rintro e K ⟨rfl,d⟩))
  go_ret2;exact⟨_,_,_,rfl,q2x _ _ _,λh=>by omega,(Ql).trans (d.mono (by simp))⟩
theorem O0 {g:Func}{p a b:Tmp}{ty:TypeId}{f:Addr}{v:Value}{P:Program}{w:WD}{d:Array Value}(h:g.results=#[.cell p ty,.tmp a,.tmp b])(u:d.getD p undef=.pointer (some f))(m:(loadVar ty f).run P w=.ok v w) :
  (results g d).run P w=.ok (.tuple #[v,d.getD a undef,d.getD b undef]) w:=by
 have e:(results g d).run P w=((asAddr (d.getD p undef)).run P w).andThen λf y=>((loadVar ty f).run P y).andThen λv A=>.ok (.tuple #[v,d.getD a undef,d.getD b undef]) A:=by
  simp only[results,h];simp[Sem.run_bind,Result.andThen]
 rw[e,u];simp[asAddr,m]
theorem q3c {w:WD}{b:Nat}{h:Hd}(d:w.rangeAt b 0 h.vs):(loadVar 94 ⟨b,0,none⟩).run prog w=.ok h.v w:=
 run_loadVar_mid w b 0 94 h.vs _ d underlying94 rfl (by kernel_rfl)
theorem q8w {w:WD}{A:OA}{n c:Nat}{l:LU}(h:Sl w A n c l):(convert 22 9 (.slice A n c)).run prog w=.ok (.string ⟨l.toArray⟩) w:=
 q61 _ _ _ Cb underlying5 underlying9 h
def okB (l:LU):Bool:=decide (l.length=256/\l.take 4=Ux l/\(Gu ((l.drop 4).take 11)).ok=true/\Yc ((l.drop 15).take 5)=true)
def Xo (l:LU):Hd:=if okB l=true then Gu ((l.drop 4).take 11) else Hd.zero
def Un (l:LU):LU:=if okB l=true then l.drop 20 else []
def Me (l:LU):Int:=if okB l=true then 0 else 3
theorem q5q {e:Array Oper}{d:List Oper}{o:Oper}{a:Act}{w:WD}{Q:Exit->Act->WD->Prop}(m:o.guard=none)(x:Operand)(f:o.op=Op.load 94 x)
  (b:Nat) (p:a.eval x=.pointer (some ⟨b,0,none⟩)) (h:Hd) (H:w.rangeAt b 0 h.vs) (g:wpList prog e Q d (a.put o.dst h.v) w):wpList prog e Q (o::d) a w:=
 wpList_load_mid m _ x f b 0 p h.vs _ H underlying94 rfl (by kernel_rfl) g
theorem q4d {w w':WD}{b:Nat}{vs:LV}(h:w.rangeAt b 0 vs){B:Nat}(e:Below B w w')(d:b<B):w'.rangeAt b 0 vs:=λj v f=>(e.cell (p:=⟨b,0+j,none⟩) d).trans (h j v f)
theorem qxw (n:Nat):(zrs n).length=n:=BK
theorem qnk (L C:LU)(h:L.length=C.length):splice L 0 C=C:=by
 unfold splice;rw[List.take_zero,BG,List.drop_of_length_le (by omega),BM]
theorem U3 {w d e:WD}{H:Hd}{o:Obj}(p:e.rangeAt d.1.size 0 H.vs)(f:∀B,B<=d.1.size->Below B (d.alloc o) e)(g:HB d w.1.size Hd.zero)(m:Below w.1.size w d)(u:w.1.size<d.1.size) :
  e.rangeAt d.1.size 0 H.vs/\Below w.1.size w e/\HB e w.1.size Hd.zero/\d.1.size<e.1.size:=by
 have h1:Below d.1.size d e:=((AI _ _).alloc (AE _) o).trans (f _ (AE _));have h2:=(f _ (AE _)).size;rw[BH] at h2;exact⟨p,m.trans (h1.mono (by omega)),g.below h1 u,by omega⟩
theorem cuts {w:WD}{d:Addr}{c:Nat}{l:LU}(e:Sl w (some d) 256 c l):Sl w (some (d.add 15)) 5 (c-15) ((l.drop 15).take 5)/\Sl w (some (d.add 20)) 236 (c-20) (l.drop 20):=by
 have f:=e.cap;have h1:=(e.drop (k:=15) (by omega)).take (k:=5) (by omega);have h2:=e.drop (k:=20) (by omega);rw[AB (by omega)] at h1 h2;exact⟨h1,h2⟩
def Tv (A:OA)(n c:Nat)(l:LU)(w:WD):Prop:=
  Calls prog 72 #[.slice A n c] w λe m=>
   ∃d g f,e=.returned (.tuple #[(Xo l).v,.slice d g f,.int .i64 (Me l)])/\Own m w.1.size 5 d g f (Un l)/\Below w.1.size w m
theorem qh8 {l:LU}(h:okB l=false):Xo l=Hd.zero/\Un l=[]/\Me l=3:=by
 unfold Xo Un Me;rw[h];exact⟨rfl,rfl,rfl⟩
theorem q5y {l:LU}(h:okB l=true):Xo l=Gu ((l.drop 4).take 11)/\Un l=l.drop 20/\Me l=0:=by
 unfold Xo Un Me;rw[h];exact⟨rfl,rfl,rfl⟩
theorem qxx (ad:Addr)(c:Nat)(l:LU)(w:WD)(hs:Sl w (some ad) 256 c l)(ht:Tab w)(b1:l.take 4=Ux l):Tv (some ad) 256 c l w:=by
 unfold Tv;have a0:=hs.len;have c9:=hs.cap;have hm:=hs.max;unfold maxLen at hm;have HZ:=HB.zero w 94;have I:Below w.1.size w (w.alloc (.cells #[.int .i64 0,.int .i64 0,.int .i64 0,.int .i64 0,.int .i64 0] 94)):=Ql;have b3:w.1.size<(w.alloc (.cells #[.int .i64 0,.int .i64 0,.int .i64 0,.int .i64 0,.int .i64 0] 94)).1.size:=by simp
 obtain⟨H,hH⟩:∃H,Gu ((l.drop 4).take 11)=H:=⟨_,rfl⟩;have a6:=congrArg (λx:LU=>(⟨x.toArray⟩:ByteArray)) b1;obtain⟨S1,hS⟩:∃S1,(⟨(Ux l).toArray⟩:ByteArray)=S1:=⟨_,rfl⟩;have a7:(⟨(l.take 4).toArray⟩:ByteArray)=S1:=a6.trans hS;clear a6;go_enter func72,ntmps72
 go_wp2;generalize (w.alloc (.cells #[.int .i64 0,.int .i64 0,.int .i64 0,.int .i64 0,.int .i64 0] 94))=w1 at HZ I b3 ⊢;have Q:=hs.below I;have b9:=ht.below I ht.1;have k1:=q8w (Q.take (k:=4) (by omega)).drew;rw[a7] at k1;go_region_with (first
  |(go_at_call 64;refine (q8b _ 256 c l _ Q.drew (by omega) b9).mono ?_;rintro e w3 ⟨A3,n3,c3,rfl,a1,a9⟩;have A:Below w1.1.size w1 w3:=Below.trans (AI _ w1).drew a9;have k2:=q8w ((Q.below A).take (k:=4) (by omega));have k3:=q8w a1.sl;rw[a7] at k2;rw[hS] at k3)
  |fail)
 all_goals
  have a2:=HZ.below A b3;have d2:=A.size;have b7:=Q.below A;have D:=I.trans (A.mono I.size);have Y:=(b7.drop (k:=4) (by omega)).take (k:=11) (by omega);rw[AB (show ¬c=4 by omega)] at Y;clear k1 k2 k3 a1 a9 Q HZ
  cases M:H.ok
  ·have a3:okB l=false:=AH (λh=>by have:=h.2.2.1;rw[hH,M] at this;cases this);go_wp2_with (first
    |(go_at_call 100;refine (q50 _ (c-4) _ _ Y).mono ?_;rw[hH];rintro e X ⟨rfl,m⟩;have E:=a2.below m (by omega);have b4:=m.size)
    |(refine D5 rfl (.tmp 5) (.tmp 22) rfl X.1.size rfl H _ rfl (HB.zero X _) (by simp) ?_;intro w6 O J _;obtain⟨f,y,F,U⟩:=U3 O J E (D.trans (m.mono D.size)) (by omega))
    |(refine q5q rfl (.tmp 5) rfl X.1.size rfl H (by first|exact f|assumption) ?_)
    |(go_at_call 62;refine (q3v H _).mono ?_;rw[M];rintro e w7 ⟨rfl,d⟩;have G:=F.below d (by omega);have p:=y.trans (d.mono y.size);have a4:=q4d f d U;have b5:=d.size;have T:=hs.below p;obtain⟨B,R⟩:=cuts T)
    |(refine D5 rfl (.tmp 2) (.tmp 32) rfl w.1.size rfl Hd.zero _ rfl G (by omega) ?_;intro wz P K Tz)
    |fail)
   refine bodyPost_ret (O0 Tryz.results72 rfl (q3c P)) rfl ?_;obtain⟨h1,h2,h3⟩:=qh8 (l:=l) a3;rw[h1,h2,h3];exact⟨_,_,_,rfl,q2x _ _ _,p.trans (K _ (AE _))⟩
  ·cases Z:Yc ((l.drop 15).take 5)
   ·have a3:okB l=false:=AH (λh=>by have:=h.2.2.2;rw[Z] at this;cases this);go_wp2_with (first
     |(go_at_call 100;refine (q50 _ (c-4) _ _ Y).mono ?_;rw[hH];rintro e X ⟨rfl,m⟩;have E:=a2.below m (by omega);have b4:=m.size)
     |(refine D5 rfl (.tmp 5) (.tmp 22) rfl X.1.size rfl H _ rfl (HB.zero X _) (by simp) ?_;intro w6 O J _;obtain⟨f,y,F,U⟩:=U3 O J E (D.trans (m.mono D.size)) (by omega))
     |(refine q5q rfl (.tmp 5) rfl X.1.size rfl H (by first|exact f|assumption) ?_)
     |(go_at_call 62;refine (q3v H _).mono ?_;rw[M];rintro e w7 ⟨rfl,d⟩;have G:=F.below d (by omega);have p:=y.trans (d.mono y.size);have a4:=q4d f d U;have b5:=d.size;have T:=hs.below p;obtain⟨B,R⟩:=cuts T)
     |(go_at_call 101;refine (qbi _ 5 (c-15) _ w7 B).mono ?_;rw[Z];rintro e w8 ⟨rfl,rfl⟩)
     |(refine D5 rfl (.tmp 2) (.tmp 32) rfl w.1.size rfl Hd.zero _ rfl G (by omega) ?_;intro wz P K Tz)
     |fail)
    refine bodyPost_ret (O0 Tryz.results72 rfl (q3c P)) rfl ?_;obtain⟨h1,h2,h3⟩:=qh8 (l:=l) a3;rw[h1,h2,h3];exact⟨_,_,_,rfl,q2x _ _ _,p.trans (K _ (AE _))⟩
   ·have b2:okB l=true:=AL ⟨a0,b1,by rw[hH];exact M,Z⟩;go_wp2_with (first
     |(go_at_call 100;refine (q50 _ (c-4) _ _ Y).mono ?_;rw[hH];rintro e X ⟨rfl,m⟩;have E:=a2.below m (by omega);have b4:=m.size)
     |(refine D5 rfl (.tmp 5) (.tmp 22) rfl X.1.size rfl H _ rfl (HB.zero X _) (by simp) ?_;intro w6 O J _;obtain⟨f,y,F,U⟩:=U3 O J E (D.trans (m.mono D.size)) (by omega))
     |(refine q5q rfl (.tmp 5) rfl X.1.size rfl H (by first|exact f|assumption) ?_)
     |(go_at_call 62;refine (q3v H _).mono ?_;rw[M];rintro e w7 ⟨rfl,d⟩;have G:=F.below d (by omega);have p:=y.trans (d.mono y.size);have a4:=q4d f d U;have b5:=d.size;have T:=hs.below p;obtain⟨B,R⟩:=cuts T)
     |(go_at_call 101;refine (qbi _ 5 (c-15) _ w7 B).mono ?_;rw[Z];rintro e w8 ⟨rfl,rfl⟩)
     |(at_make;refine q7a _ Cb rfl _ _ rfl _ _ 236 rfl rfl (by omega) ?_;intro w9 b6 b0;have b8:=Sl.below R b0)
     |((with_reducible show wpList _ _ _ _ _ _);refine q51 Cb rfl (.tmp 34) (.tmp 36) rfl w7.1.size w7.1.size 236 _ b6 0 236 236 rfl _ 236 (c-20) _ rfl b8 (by omega) (by omega) ?_;intro d3 W a8;have u:=b0.trans a8;have a5:=G.below u (by omega);have d0:=q4d a4 u (by omega);have d1:=u.size)
     |(refine D5 rfl (.tmp 2) (.tmp 38) rfl w.1.size rfl H _ rfl a5 (by omega) ?_;intro wz P K Tz)
     |fail)
    refine bodyPost_ret (O0 Tryz.results72 rfl (q3c P)) rfl ?_;obtain⟨h1,h2,h3⟩:=q5y (l:=l) b2;rw[h1,h2,h3,hH];rw[qnk _ _ (by rw[qxw,AS,a0])] at W;exact⟨_,_,_,rfl,(W.turn λg hg hl=>Tz.block g hl (by show ¬g=w.1.size;omega)).less p.size,p.trans ((u.mono p.size).trans (K _ (AE _)))⟩
