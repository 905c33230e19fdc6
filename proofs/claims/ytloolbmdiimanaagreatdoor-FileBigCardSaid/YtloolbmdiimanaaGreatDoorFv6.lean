/- Seal's fields, valid, packed, unpacked: the header's five numbers as a block holds them -/
import Derived.Test.YtloolbmdiimanaaGreatDoorFv3
import Derived.Test.YtloolbmdiimanaaGreatDoorFv4
import Derived.BigRegion
import Derived.StillTailTactics
import Derived.Deep.RegionHeld3
namespace Go.Proofs.YtloolbmdiimanaaGreatDoor
open Go Go.RowKit Go.Proofs Tryz
set_option maxHeartbeats 2000000
set_option maxRecDepth 10000
structure Hd where
 kind:Int
 addr:Int
 count:Int
 level:Int
 gen:Int
def Hd.v (h:Hd):Value:=.agg #[.int .i64 h.kind,.int .i64 h.addr,.int .i64 h.count,.int .i64 h.level,.int .i64 h.gen]
def Hd.zero:Hd:=⟨0,0,0,0,0⟩
def Xu:Nat->Nat|0=>0|1=>3|2=>1|3=>2|_=>4
def Y5:Nat->Int|0=>1|1=>1|2=>2|3=>2|_=>5
def Fv:Nat->Int|0=>1|_=>0
def Fz:Nat->Int|0=>6|1=>8|2=>2047|3=>65535|_=>1099511627775
def Hd.Bc (h:Hd):Nat->Int|0=>h.kind|1=>h.level|2=>h.addr|3=>h.count|_=>h.gen
def Hd.set (h:Hd)(k:Nat)(x:Int):Hd:=match k with
 |0=>{ h with kind:=x }
 |1=>{ h with level:=x }
 |2=>{ h with addr:=x }
 |3=>{ h with count:=x }
 |_=>{ h with gen:=x }
def fv (d k:Nat):Value:=.agg #[.pointer (some ⟨d,Xu k,none⟩),.int .i64 (Y5 k),.int .i64 (Fv k),.int .i64 (Fz k)]
def Cj (d:Nat):LV:=[.pointer (some ⟨d,0,none⟩),.int .i64 1,.int .i64 1,.int .i64 6,.pointer (some ⟨d,3,none⟩),.int .i64 1,.int .i64 0,.int .i64 8,
 .pointer (some ⟨d,1,none⟩),.int .i64 2,.int .i64 0,.int .i64 2047,.pointer (some ⟨d,2,none⟩),.int .i64 2,.int .i64 0,.int .i64 65535,.pointer (some ⟨d,4,none⟩),.int .i64 5,.int .i64 0,.int .i64 1099511627775]
def fvs (d:Nat):Value:=.agg (Cj d).toArray
def HB (w:WD)(d:Nat)(h:Hd):Prop:=∃t,w.1[d]?=some (.cells #[.int .i64 h.kind,.int .i64 h.addr,.int .i64 h.count,.int .i64 h.level,.int .i64 h.gen] t (0,0))
theorem qrd (w:WD)(d:Array Value)(t:TypeId):(w.alloc (.cells d t)).there w.1.size 0 d.size:=λj f=>by
 have e:(w.alloc (.cells d t)).1[w.1.size]?=some (.cells d t (0,0)):=BE w _;refine⟨?_,by unfold World.frozen?;rw[e];simp⟩;rw[cell_of_row _ _ _ _ _ _ e,AT,Array.getElem?_eq_getElem f];rfl
theorem q2n {f:Func}{p:Tmp}{ty:TypeId}{g:Addr}{v:Value}{P:Program}{w:WD}{d:Array Value}(h:f.results=#[.cell p ty])(u:d.getD p undef=.pointer (some g))(m:(loadVar ty g).run P w=.ok v w) :
  (results f d).run P w=.ok v w:=by
 have e:(results f d).run P w=((asAddr (d.getD p undef)).run P w).andThen λa y=>(loadVar ty a).run P y:=by
  simp only[results,h];simp[Sem.run_bind,Result.andThen];try rfl
 rw[e,u];simp[asAddr,m]
theorem idx (d k:Nat)(e:k<5)(w:WD):(Instr.index 167 (fvs d) (.int .i64 (k:Int))).run prog w=.ok (fv d k) w:=by
 match k,e with
 |0,_=>show (Instr.index 167 (fvs d) (.int .i64 0)).run prog w=_;kernel_rfl
 |1,_=>show (Instr.index 167 (fvs d) (.int .i64 1)).run prog w=_;kernel_rfl
 |2,_=>show (Instr.index 167 (fvs d) (.int .i64 2)).run prog w=_;kernel_rfl
 |3,_=>show (Instr.index 167 (fvs d) (.int .i64 3)).run prog w=_;kernel_rfl
 |4,_=>show (Instr.index 167 (fvs d) (.int .i64 4)).run prog w=_;kernel_rfl
theorem q84 (d:Nat)(w:WD) :
  Calls prog 93 #[.pointer (some ⟨d,0,none⟩)] w λe A=>e=.returned (fvs d)/\Below w.1.size w A:=by
 go_enter func93,ntmps93
 go_wp2;generalize g:w.alloc _=f;go_still_tail 21,(by kernel_rfl)
 change wpList _ _ _ _ _ f.drew;have m:Below w.1.size w f:=by rw[<-g];exact Ql
 have y:f.drew.there w.1.size 0 20:=by
  show f.there w.1.size 0 20;rw[<-g];exact qrd w _ _
 clear g;refine wpList_store_mid rfl _ _ _ rfl w.1.size 0 (Cj d).toArray rfl rfl y (by kernel_rfl) (by simp[Cj,Value.oneCell']) ?_;have u:(f.drew.setCells w.1.size 0 (Cj d)).rangeAt w.1.size 0 (Cj d):=World.rangeAt_setCells_same _ _ _ _ y;have p:Below w.1.size w (f.drew.setCells w.1.size 0 (Cj d)):=m.drew.trans ((Ut (S:=λk=>k=w.1.size) rfl (Cj d) 0 f.drew).below (λx D=>by omega) (m.size));change wpList _ _ _ _ _ (f.drew.setCells w.1.size 0 (Cj d));generalize f.drew.setCells w.1.size 0 (Cj d)=B at u p ⊢;go_wp2;refine bodyPost_ret (v:=fvs d) ?_ rfl ⟨rfl,p⟩;exact q2n Tryz.results93 rfl (run_loadVar_mid B w.1.size 0 167 (Cj d) _ u underlying167 rfl (by kernel_rfl))
theorem HB.at_ {w:WD}{bp:Nat}{h:Hd}(H:HB w bp h)(k:Nat):w.cell? ⟨bp,Xu k,none⟩=some (.int .i64 (h.Bc k)):=by
 obtain⟨t,H⟩:=H;rw[cell_of_row _ _ _ _ _ _ H];match k with
 |0=>rfl
 |1=>rfl
 |2=>rfl
 |3=>rfl
 |_+4=>rfl
theorem HB.below {w w':WD}{bp:Nat}{h:Hd}(H:HB w bp h){B:Nat}(hb:Below B w w')(hB:bp<B):HB w' bp h:=by
 obtain⟨t,H⟩:=H;exact⟨t,(hb.block bp hB).trans H⟩
theorem Qbd (d k:Nat)(e:k<5)(w:WD):(Instr.index 167 (fvs d) (.int .i64 (k:Int))).run prog w=.ok (.agg #[.pointer (some ⟨d,Xu k,none⟩),.int .i64 (Y5 k),.int .i64 (Fv k),.int .i64 (Fz k)]) w:=idx d k e w
def Hd.in_ (h:Hd)(k:Nat):Prop:=Fv k<=h.Bc k/\h.Bc k<=Fz k
def Hd.ok (h:Hd):Bool:=decide ((1<=h.kind/\h.kind<=6)/\(0<=h.level/\h.level<=8)/\(0<=h.addr/\h.addr<=2047)/\(0<=h.count/\h.count<=65535)/\0<=h.gen/\h.gen<=1099511627775)
theorem Hd.Qcb (h:Hd)(H:∀j<5,h.in_ j):h.ok=true:=by
 have h0:=H 0 (by omega);have h1:=H 1 (by omega);have h2:=H 2 (by omega);have d:=H 3 (by omega);have e:=H 4 (by omega);exact AL ⟨h0,h1,h2,d,e⟩
theorem Hd.Qaw (h:Hd)(H:h.ok=true)(j:Nat)(hj:j<5):h.in_ j:=by
 obtain⟨h0,h1,h2,d,e⟩:=AK H;match j,hj with
 |0,_=>exact h0
 |1,_=>exact h1
 |2,_=>exact h2
 |3,_=>exact d
 |4,_=>exact e
theorem q3q (h:Hd)(w:WD) :
  Calls prog 62 #[.agg #[.int .i64 h.kind,.int .i64 h.addr,.int .i64 h.count,.int .i64 h.level,.int .i64 h.gen]] w λe Z=>e=.returned (.bool h.ok)/\Below w.1.size w Z:=by
 go_enter func62,ntmps62
 go_wp2_with (go_at_call 93;refine (q84 w.1.size _).mono ?_;rintro e P ⟨rfl,p⟩)
 have R:HB P w.1.size h:=HB.below ⟨_,BE w _⟩ p (by simp);have E:Below w.1.size w P:=(Ql).trans (p.mono (by simp));have O:=p.size;rw[BH] at O;go_loopw [6] (λi wr=>∃k:Nat,k<=5/\i=.int .i64 (k:Int)/\(∀j<k,h.in_ j)/\HB wr w.1.size h/\Below w.1.size w wr/\w.1.size<wr.1.size) (λi _=>5-(intOf i).toNat)
 case atStart=>exact⟨0,by omega,rfl,λj T=>by omega,R,E,by omega⟩
 case round=>
  obtain⟨k,hk,rfl,A,H,B,u⟩:=hrel;by_cases D:k<5
  ·have I:=Qbd w.1.size k D;have F:=H.at_ k;have U:(0:Int)<=(k:Int):=by omega
   have G:∀o:Obj,(wr.alloc o).cell? ⟨w.1.size,Xu k,none⟩=some (.int .i64 (h.Bc k)):=λo=>((AI _ _).alloc (AE _) o).cell u |>.trans F
   go_wp2;generalize g:wr.alloc _=d;have f:Below wr.1.size wr d:=by rw[<-g];exact Ql
   have hn:d.1[wr.1.size]?=some (.cells #[.pointer (some ⟨w.1.size,Xu k,none⟩),.int .i64 (Y5 k),.int .i64 (Fv k),.int .i64 (Fz k)] 166 (0,0)):=by rw[<-g];exact BE wr _
   have X:d.1.size=wr.1.size+1:=by rw[<-g];simp
   clear g I;have q0:d.cell? ⟨wr.1.size,0,none⟩=some (.pointer (some ⟨w.1.size,Xu k,none⟩)):=by rw[cell_of_row _ _ _ _ _ _ hn];rfl
   have q2:d.cell? ⟨wr.1.size,2,none⟩=some (.int .i64 (Fv k)):=by rw[cell_of_row _ _ _ _ _ _ hn];rfl
   have q3:d.cell? ⟨wr.1.size,3,none⟩=some (.int .i64 (Fz k)):=by rw[cell_of_row _ _ _ _ _ _ hn];rfl
   have qc:d.cell? ⟨w.1.size,Xu k,none⟩=some (.int .i64 (h.Bc k)):=(f.cell u).trans F;have Q:=H.below f u;have m:=B.trans (f.mono B.size);clear B H F G hn f;generalize Y:h.Bc k=x at *;generalize W:Fv k=lo at *;generalize hm:Fz k=hi at *;by_cases h1:x<lo
   ·have y:h.ok=false:=by
     cases M:h.ok
     ·rfl
     ·have:=(h.Qaw M k D).1;omega
    go_quiet (fail)
    go_wp2;go_ret;exact⟨by first|rfl|(rw[y];rfl),q1p m _⟩
   ·have g1:decide (x<lo)=false:=AH h1;by_cases h2:hi<x
    ·have y:h.ok=false:=by
      cases M:h.ok
      ·rfl
      ·have:=(h.Qaw M k D).2;omega
     go_quiet (fail)
     go_wp2;go_ret;exact⟨by first|rfl|(rw[y];rfl),q1p m _⟩
    ·have g2:decide (hi<x)=false:=AH h2;go_quiet (fail)
     go_wp2;refine⟨⟨k+1,by omega,rfl,λj T=>?_,Q.below (q1p (AI d.1.size d) _) (by omega),q1p m _,by show w.1.size<d.1.size;omega⟩,by simp[intOf];omega⟩;by_cases J:j=k
     ·rw[J];unfold Hd.in_;rw[Y,W,hm];omega
     ·exact A j (by omega)
  ·have K:k=5:=by omega
   go_wp2;go_ret;exact⟨by rw[h.Qcb (by rw[<-K];exact A)];rfl,B⟩
def hdB (h:Hd):LU:=Qy h.kind 1++(Qy h.level 1++(Qy h.addr 2++(Qy h.count 2++Qy h.gen 5)))
def Gh (h:Hd):Nat->LU
 |0=>[]
 |k+1=>Gh h k++Qy (h.Bc k) (Y5 k).toNat
theorem quu (h:Hd)(k:Nat)(d:k<=5):(Gh h k).length<=11:=by
 match k,d with
 |0,_=>simp[Gh]
 |1,_=>simp[Gh,Xy,Y5]
 |2,_=>simp[Gh,Xy,Y5]
 |3,_=>simp[Gh,Xy,Y5]
 |4,_=>simp[Gh,Xy,Y5]
 |5,_=>simp[Gh,Xy,Y5]
theorem quv (h:Hd):Gh h 5=hdB h:=by simp[Gh,hdB,Hd.Bc,Y5]
theorem qre (k:Nat):1<=Y5 k/\Y5 k<=5:=by
 match k with
 |0=>decide
 |1=>decide
 |2=>decide
 |3=>decide
 |_+4=>exact⟨by show (1:Int)<=5;omega,by show (5:Int)<=5;omega⟩
theorem qn8 (h:Hd)(w:WD) :
  Calls prog 63 #[.agg #[.int .i64 h.kind,.int .i64 h.addr,.int .i64 h.count,.int .i64 h.level,.int .i64 h.gen]] w λe R=>∃A n c,e=.returned (.slice A n c)/\Sl R A n c (hdB h)/\Below w.1.size w R:=by
 go_enter func63,ntmps63
 go_wp2_with (go_at_call 93;refine (q84 w.1.size _).mono ?_;rintro e T ⟨rfl,u⟩)
 have X:HB T w.1.size h:=HB.below ⟨_,BE w _⟩ u (by simp);have F:Below w.1.size w T:=(Ql).trans (u.mono (by simp));have O:=u.size;rw[BH] at O;go_loopw [3,7] (λs i wr=>∃(k:Nat) (A:OA) (n c:Nat),k<=5/\s=.slice A n c/\i=.int .i64 (k:Int)/\Sl wr A n c (Gh h k)/\HB wr w.1.size h/\Below w.1.size w wr/\w.1.size<wr.1.size) (λ_ i _=>5-(intOf i).toNat)
 case atStart=>exact⟨0,none,0,0,by omega,rfl,rfl,Ah _,X,F,by omega⟩
 case round=>
  obtain⟨k,A,n,c,hk,rfl,rfl,D,H,E,B⟩:=hrel;by_cases Y:k<5
  ·have I:=Qbd w.1.size k Y;have P:=H.at_ k;have a0:(0:Int)<=(k:Int):=by omega
   go_wp2;generalize m:wr.alloc _=p;have d:Below wr.1.size wr p:=by rw[<-m];exact Ql
   have hn:p.1[wr.1.size]?=some (.cells #[.pointer (some ⟨w.1.size,Xu k,none⟩),.int .i64 (Y5 k),.int .i64 (Fv k),.int .i64 (Fz k)] 166 (0,0)):=by rw[<-m];exact BE wr _
   have a2:p.1.size=wr.1.size+1:=by rw[<-m];simp
   clear m I;have q0:p.cell? ⟨wr.1.size,0,none⟩=some (.pointer (some ⟨w.1.size,Xu k,none⟩)):=by rw[cell_of_row _ _ _ _ _ _ hn];rfl
   have q1:p.cell? ⟨wr.1.size,1,none⟩=some (.int .i64 (Y5 k)):=by rw[cell_of_row _ _ _ _ _ _ hn];rfl
   have qc:p.cell? ⟨w.1.size,Xu k,none⟩=some (.int .i64 (h.Bc k)):=(d.cell B).trans P;have W:=H.below d B;have M:=D.below d;have y:=E.trans (d.mono E.size);have Q:=D.len;have a1:=quu h k hk;have Z:=qre k;have K:G6 (Gh h k) (h.Bc k) (Y5 k)=Gh h (k+1):=by unfold G6;rw[AA (by omega)];rfl
   clear E H P hn d D;go_still_tail 7,(by kernel_rfl)
   change wpList _ _ _ _ _ p.drew;go_wp2_with (go_at_call 65;refine (q7l A n c (Gh h k) (h.Bc k) (Y5 k) _ M.drew (by omega)).mono ?_;rintro e w3 ⟨U,n3,c3,rfl,g,G⟩)
   rw[K] at g;have f:Below p.1.size p w3:=(AI _ _).drew.trans G;exact⟨⟨k+1,U,n3,c3,by omega,rfl,rfl,g.sl,W.below f (by omega),y.trans (f.mono y.size),by have:=f.size;omega⟩,by simp[intOf];omega⟩
  ·have J:k=5:=by omega
   go_wp2;go_ret;rw[J,quv] at D;exact⟨A,n,c,rfl,D,E⟩
def Us:Nat->Nat|0=>0|1=>1|2=>2|3=>4|4=>6|_=>11
def rdF (l:LU)(k:Nat):Nat:=Qq ((l.drop (Us k)).take (Y5 k).toNat)
def Qbg (l:LU):Nat->Hd
 |0=>Hd.zero
 |k+1=>(Qbg l k).set k (rdF l k)
def Gv (l:LU):Hd:=⟨Qq (l.take 1),Qq ((l.drop 2).take 2),Qq ((l.drop 4).take 2),Qq ((l.drop 1).take 1),Qq ((l.drop 6).take 5)⟩
theorem quw (l:LU):Qbg l 5=Gv l:=rfl
theorem qrf (k:Nat)(d:k<5):Us (k+1)=Us k+(Y5 k).toNat:=by
 match k,d with
 |0,_=>rfl
 |1,_=>rfl
 |2,_=>rfl
 |3,_=>rfl
 |4,_=>rfl
theorem qxm (k:Nat)(d:k<=5):Us k<=11:=by
 match k,d with
 |0,_=>decide
 |1,_=>decide
 |2,_=>decide
 |3,_=>decide
 |4,_=>decide
 |5,_=>decide
theorem HB.G7 {w:WD}{bp:Nat}{h:Hd}(H:HB w bp h)(k:Nat)(x:Int):HB (w.setCell ⟨bp,Xu k,none⟩ (.int .i64 x)) bp (h.set k x):=by
 obtain⟨t,H⟩:=H;refine⟨t,(heap_setCell_same w bp (Xu k) _ t (.int .i64 x) H).trans ?_⟩;match k with
 |0=>rfl
 |1=>rfl
 |2=>rfl
 |3=>rfl
 |_+4=>rfl
theorem HB.fz {w:WD}{bp:Nat}{h:Hd}(H:HB w bp h)(k:Nat):w.frozen? ⟨bp,Xu k,none⟩=false:=by
 obtain⟨t,H⟩:=H;unfold World.frozen?;rw[H];simp
theorem HB.zero (w:WD)(t:TypeId):HB (w.alloc (.cells #[.int .i64 0,.int .i64 0,.int .i64 0,.int .i64 0,.int .i64 0] t)) w.1.size Hd.zero:=⟨t,BE w _⟩
theorem Own.turn {w w':WD}{base n c:Nat}{e:TypeId}{A:OA}{l:LU}(h:Own w base e A n c l)(hk:∀g,base<=g->g<w.1.size->w'.1[g]?=w.1[g]?):Own w' base e A n c l:=by
 refine⟨h.1,?_⟩;rcases h.2 with f|⟨g,cap,d,f,h1,m,r⟩
 ·exact .inl f
 ·exact .inr ⟨g,cap,d,f,h1,(hk g h1 (Array.getElem?_eq_some_iff.1 m).1).trans m,r⟩
def Hd.vs (h:Hd):LV:=[.int .i64 h.kind,.int .i64 h.addr,.int .i64 h.count,.int .i64 h.level,.int .i64 h.gen]
theorem HB.range {w:WD}{bp:Nat}{h:Hd}(H:HB w bp h):w.rangeAt bp 0 h.vs:=λj v d=>by
 obtain⟨t,H⟩:=H;rw[cell_of_row _ _ _ _ _ _ H,AT];simpa [Hd.vs] using d
theorem HB.there {w:WD}{bp:Nat}{h:Hd}(H:HB w bp h):w.there bp 0 5:=λj d=>by
 obtain⟨t,H⟩:=H;refine⟨?_,by unfold World.frozen?;rw[H];simp⟩;rw[cell_of_row _ _ _ _ _ _ H,AT,Array.getElem?_eq_getElem (by simpa using d)];rfl
theorem q85 {e:Array Oper}{d:List Oper}{o:Oper}{a:Act}{w:WD}{Q:Exit->Act->WD->Prop}(m:o.guard=none)(x:Operand)(f:o.op=Op.load 94 x)
  (b:Nat) (p:a.eval x=.pointer (some ⟨b,0,none⟩)) (h:Hd) (H:HB w b h) (g:wpList prog e Q d (a.put o.dst h.v) w):wpList prog e Q (o::d) a w:=
 wpList_load_mid m _ x f b 0 p h.vs _ H.range underlying94 rfl (by kernel_rfl) g
theorem Dy {e:Array Oper}{d:List Oper}{o:Oper}{a:Act}{w:WD}{Q:Exit->Act->WD->Prop}(u:o.guard=none)(x y:Operand)(g:o.op=Op.store 94 x y)
  (b:Nat) (m:a.eval x=.pointer (some ⟨b,0,none⟩)) (h h0:Hd) (A:a.eval y=h.v) (H:HB w b h0) (E:b<w.1.size)
  (p:∀f,f.rangeAt b 0 h.vs->(∀B,B<=b->Below B w f)->Turn (λk=>k=b) w f->wpList prog e Q d (a.put o.dst undef) f):wpList prog e Q (o::d) a w:=
 wpList_store_mid u _ x y g b 0 h.vs.toArray m A H.there (by kernel_rfl) (by simp[Hd.vs,Value.oneCell'])
  (p _ (World.rangeAt_setCells_same _ _ _ _ H.there) (λB D=>(Ut (S:=λk=>k=b) rfl h.vs 0 w).below (λx m=>by omega) (by omega)) (Ut (S:=λk=>k=b) rfl h.vs 0 w))
theorem q4v (A:OA)(c:Nat)(l:LU)(w:WD)(hs:Sl w A 11 c l) :
  Calls prog 100 #[.slice A 11 c] w λe f=>e=.returned (Gv l).v/\Below w.1.size w f:=by
 go_enter func100,ntmps100
 go_wp2_with (go_at_call 93;refine (q84 (w.1.size+1) _).mono ?_;rintro e w2 ⟨rfl,m⟩)
 have a3:=m.size;simp only[BH] at a3 m;have G:Below w.1.size w w2:=(((AI _ w).alloc (AE _) _).alloc (by simp) _).trans (m.mono (by omega));have hR:HB w2 w.1.size Hd.zero:=((HB.zero w _).below (Ql) (by simp)).below m (by omega);have hH:HB w2 (w.1.size+1) Hd.zero:=by
  have:=HB.zero (w.alloc (.cells #[.int .i64 0,.int .i64 0,.int .i64 0,.int .i64 0,.int .i64 0] 94)) 94;rw[BH] at this;exact this.below m (by omega)
 clear m;have hl:=hs.len;go_loopw [0,7] (λs i wr=>∃(k:Nat) (A:OA) (c:Nat),k<=5/\s=.slice A (11-Us k) c/\i=.int .i64 (k:Int)/\Sl wr A (11-Us k) c (l.drop (Us k))/\HB wr w.1.size Hd.zero/\HB wr (w.1.size+1) (Qbg l k)/\Below w.1.size w wr/\w.1.size+2<=wr.1.size) (λ_ i _=>5-(intOf i).toNat)
 case atStart=>exact⟨0,A,c,by omega,rfl,rfl,by simpa [Us] using hs.below G,hR,hH,G,by omega⟩
 case round=>
  obtain⟨k,A1,c1,hk,rfl,rfl,K,E,H,O,a6⟩:=hrel;by_cases h5:k<5
  ·have X:=Qbd (w.1.size+1) k h5;have a5:(0:Int)<=(k:Int):=by omega
   go_wp2;generalize D:wr.alloc _=d;have y:Below wr.1.size wr d:=by rw[<-D];exact Ql
   have hn:d.1[wr.1.size]?=some (.cells #[.pointer (some ⟨w.1.size+1,Xu k,none⟩),.int .i64 (Y5 k),.int .i64 (Fv k),.int .i64 (Fz k)] 166 (0,0)):=by rw[<-D];exact BE wr _
   have a8:d.1.size=wr.1.size+1:=by rw[<-D];simp
   clear D X;have q0:d.cell? ⟨wr.1.size,0,none⟩=some (.pointer (some ⟨w.1.size+1,Xu k,none⟩)):=by rw[cell_of_row _ _ _ _ _ _ hn];rfl
   have q1:d.cell? ⟨wr.1.size,1,none⟩=some (.int .i64 (Y5 k)):=by rw[cell_of_row _ _ _ _ _ _ hn];rfl
   have H1:=H.below y (by omega);have Q:=E.below y (by omega);have a2:=K.below y;have F:=O.trans (y.mono O.size);have a0:=qrf k h5;have a7:=qxm (k+1) (by omega);have a4:=qre k;have W:(l.drop (Us k)).drop (Y5 k).toNat=l.drop (Us (k+1)):=by rw[List.drop_drop,a0]
   have a1:(Qq ((l.drop (Us k)).take (Y5 k).toNat):Int)=(rdF l k:Int):=rfl;clear O H hn y K E;have HT:=λ(f:WD) (h':Sl f A1 (11-Us k) c1 (l.drop (Us k)))=>q49 A1 (11-Us k) c1 (l.drop (Us k)) (Y5 k) f h' (by omega) (by omega) (by omega) (by omega)
   rw[W,a1] at HT;have R:∀f:WD,Turn (λk=>k=w.1.size+1) d f->f.cell? ⟨wr.1.size,0,none⟩=some (.pointer (some ⟨w.1.size+1,Xu k,none⟩))/\f.cell? ⟨wr.1.size,1,none⟩=some (.int .i64 (Y5 k))/\Turn (λk=>k=w.1.size+1) d f:=λf T=>⟨(AY (T.block wr.1.size (by omega) (by show ¬(wr.1.size=w.1.size+1);omega))).trans q0,(AY (T.block wr.1.size (by omega) (by show ¬(wr.1.size=w.1.size+1);omega))).trans q1,T⟩
   have TD:Turn (λk=>k=w.1.size+1) d d.drew:=Q9 (AI _ _).drew;go_region_held3 (λf=>f.cell? ⟨wr.1.size,0,none⟩=some (.pointer (some ⟨w.1.size+1,Xu k,none⟩))/\f.cell? ⟨wr.1.size,1,none⟩=some (.int .i64 (Y5 k))/\Turn (λk=>k=w.1.size+1) d f)
    (first|assumption|exact R _ TD|(go_split_ands;exact R _ (Turn.then ‹Turn (λk=>k=w.1.size+1) d _› (Q9 ‹Below (World.heap _).size _ _›)))|(go_split_ands;exact R _ (Turn.then ‹Turn (λk=>k=w.1.size+1) d _› (Bz _ rfl))))
    (first
     |(go_at_call 54;refine (HT _ a2.drew).mono ?_;rintro e M ⟨A3,n3,c3,rfl,B,U⟩;have u:Below d.1.size d M:=(AI _ d).drew.trans U;have P:=H1.below u (by omega);have q5:=P.at_ k;have q6:=P.fz k)
     |fail)
   have Z:n3=11-Us (k+1):=by have:=B.len;rw[AS,hl] at this;omega
   subst Z;go_wp2;have I:Below (w.1.size+1) M (M.setCell ⟨w.1.size+1,Xu k,none⟩ (.int .i64 (rdF l k:Int))):=(AI _ M).setCell (p:=⟨w.1.size+1,Xu k,none⟩) (AE _) _;have a9:=u.size;refine⟨⟨k+1,A3,c3,by omega,rfl,rfl,?_,(Q.below u (by omega)).below I (by omega),P.G7 k _,(F.trans (u.mono F.size)).trans (I.mono (by omega)),by show w.1.size+2<=(M.setCell _ _).1.size;rw[World.size_setCell];omega⟩,by simp[intOf];omega⟩;exact (B.turn λg hg _=>Below.heap_setCell _ _ _ _ (by show g≠w.1.size+1;have h1:d.drew.1.size=d.1.size:=rfl;omega)).sl
  ·have Y:k=5:=by omega
   go_wp2_with (first
    |(refine q85 rfl _ rfl _ rfl _ H ?_)
    |(refine Dy rfl _ _ rfl _ rfl _ _ rfl E (by omega) ?_;intro w4 J u _))
   refine bodyPost_ret (v:=(Gv l).v) ?_ rfl ⟨rfl,?_⟩
   ·rw[Y,quw] at J;exact q2n Tryz.results100 rfl (run_loadVar_mid _ w.1.size 0 94 _ _ J underlying94 rfl (by kernel_rfl))
   ·exact O.trans (u _ (AE _))
