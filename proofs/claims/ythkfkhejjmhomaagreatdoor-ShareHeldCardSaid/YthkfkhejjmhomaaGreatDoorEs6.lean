/- Seal's fields, valid, packed, unpacked: the header's five numbers as a block holds them -/
import Derived.Test.YthkfkhejjmhomaaGreatDoorEs3
import Derived.Test.YthkfkhejjmhomaaGreatDoorEs5
import Derived.BigRegion
import Derived.StillTailTactics
import Derived.Deep.RegionHeld3
import Derived.Laws.CopyOwn
namespace Go.Proofs.YthkfkhejjmhomaaGreatDoor
open Go Go.RowKit Go.Proofs
set_option maxHeartbeats 4000000
set_option maxRecDepth 10000
structure Hd where
 kind:Int
 addr:Int
 count:Int
 level:Int
 gen:Int
def Hd.v (h:Hd):Value:=.agg #[.int .i64 h.kind,.int .i64 h.addr,.int .i64 h.count,.int .i64 h.level,.int .i64 h.gen]
def Hd.zero:Hd:=⟨0,0,0,0,0⟩
def Yo:Nat->Nat|0=>0|1=>3|2=>1|3=>2|_=>4
def Y0:Nat->Int|0=>1|1=>1|2=>2|3=>2|_=>5
def F9:Nat->Int|0=>1|_=>0
def He:Nat->Int|0=>6|1=>8|2=>2047|3=>65535|_=>1099511627775
def Hd.Eh (h:Hd):Nat->Int|0=>h.kind|1=>h.level|2=>h.addr|3=>h.count|_=>h.gen
def Hd.set (h:Hd)(k:Nat)(x:Int):Hd:=match k with
 |0=>{ h with kind:=x }
 |1=>{ h with level:=x }
 |2=>{ h with addr:=x }
 |3=>{ h with count:=x }
 |_=>{ h with gen:=x }
def fv (b k:Nat):Value:=.agg #[.pointer (some ⟨b,Yo k,none⟩),.int .i64 (Y0 k),.int .i64 (F9 k),.int .i64 (He k)]
def Cj (b:Nat):List Value:=[.pointer (some ⟨b,0,none⟩),.int .i64 1,.int .i64 1,.int .i64 6,.pointer (some ⟨b,3,none⟩),.int .i64 1,.int .i64 0,.int .i64 8,
 .pointer (some ⟨b,1,none⟩),.int .i64 2,.int .i64 0,.int .i64 2047,.pointer (some ⟨b,2,none⟩),.int .i64 2,.int .i64 0,.int .i64 65535,.pointer (some ⟨b,4,none⟩),.int .i64 5,.int .i64 0,.int .i64 1099511627775]
def fvs (b:Nat):Value:=.agg (Cj b).toArray
def HB (w:World)(b:Nat)(h:Hd):Prop:=∃t,w.1[b]?=some (.cells #[.int .i64 h.kind,.int .i64 h.addr,.int .i64 h.count,.int .i64 h.level,.int .i64 h.gen] t (0,0))
theorem qs7 (w:World)(b:Array Value)(t:TypeId):(w.alloc (.cells b t)).there w.1.size 0 b.size:=λj e=>by
 have d:(w.alloc (.cells b t)).1[w.1.size]?=some (.cells b t (0,0)):=heap_alloc_new w _;refine⟨?_,by unfold World.frozen?;rw[d];simp⟩;rw[cell_of_row _ _ _ _ _ _ d,Nat.zero_add,Array.getElem?_eq_getElem e];rfl
theorem q2o {d:Func}{p:Tmp}{ty:TypeId}{f:Addr}{v:Value}{P:Program}{w:World}{b:Array Value}(h:d.results=#[.cell p ty])(u:b.getD p undef=.pointer (some f))(m:(loadVar ty f).run P w=.ok v w) :
  (results d b).run P w=.ok v w:=by
 have e:(results d b).run P w=((asAddr (b.getD p undef)).run P w).andThen λa y=>(loadVar ty a).run P y:=by
  simp only[results,h];simp[Sem.run_bind,Result.andThen];try rfl
 rw[e,u];simp[asAddr,m]
theorem idx (b k:Nat)(d:k<5)(w:World):(Instr.index 325 (fvs b) (.int .i64 (k:Int))).run Tryz.prog w=.ok (fv b k) w:=by
 match k,d with
 |0,_=>show (Instr.index 325 (fvs b) (.int .i64 0)).run Tryz.prog w=_;kernel_rfl
 |1,_=>show (Instr.index 325 (fvs b) (.int .i64 1)).run Tryz.prog w=_;kernel_rfl
 |2,_=>show (Instr.index 325 (fvs b) (.int .i64 2)).run Tryz.prog w=_;kernel_rfl
 |3,_=>show (Instr.index 325 (fvs b) (.int .i64 3)).run Tryz.prog w=_;kernel_rfl
 |4,_=>show (Instr.index 325 (fvs b) (.int .i64 4)).run Tryz.prog w=_;kernel_rfl
theorem q8q (b:Nat)(w:World) :
  Calls Tryz.prog 240 #[.pointer (some ⟨b,0,none⟩)] w λe A=>e=.returned (fvs b)/\Below w.1.size w A:=by
 go_enter Tryz.func240,Tryz.ntmps240
 go_wp2;generalize f:w.alloc _=d;go_still_tail 21,(by kernel_rfl)
 change wpList _ _ _ _ _ d.drew;have m:Below w.1.size w d:=by rw[<-f];exact Qn
 have y:d.drew.there w.1.size 0 20:=by
  show d.there w.1.size 0 20;rw[<-f];exact qs7 w _ _
 clear f;refine wpList_store_mid rfl _ _ _ rfl w.1.size 0 (Cj b).toArray rfl rfl y (by kernel_rfl) (by simp[Cj,Value.oneCell']) ?_;have u:(d.drew.setCells w.1.size 0 (Cj b)).rangeAt w.1.size 0 (Cj b):=World.rangeAt_setCells_same _ _ _ _ y;have p:Below w.1.size w (d.drew.setCells w.1.size 0 (Cj b)):=m.drew.trans ((Um (S:=λk=>k=w.1.size) rfl (Cj b) 0 d.drew).below (λx D=>by omega) (m.size));change wpList _ _ _ _ _ (d.drew.setCells w.1.size 0 (Cj b));generalize d.drew.setCells w.1.size 0 (Cj b)=B at u p ⊢;go_wp2;refine bodyPost_ret (v:=fvs b) ?_ rfl ⟨rfl,p⟩;exact q2o Tryz.results240 rfl (run_loadVar_mid B w.1.size 0 325 (Cj b) _ u Tryz.underlying325 rfl (by kernel_rfl))
theorem HB.at_ {w:World}{bp:Nat}{h:Hd}(H:HB w bp h)(k:Nat):w.cell? ⟨bp,Yo k,none⟩=some (.int .i64 (h.Eh k)):=by
 obtain⟨t,H⟩:=H;rw[cell_of_row _ _ _ _ _ _ H];match k with
 |0=>rfl
 |1=>rfl
 |2=>rfl
 |3=>rfl
 |_+4=>rfl
theorem HB.below {w w':World}{bp:Nat}{h:Hd}(H:HB w bp h){B:Nat}(hb:Below B w w')(hB:bp<B):HB w' bp h:=by
 obtain⟨t,H⟩:=H;exact⟨t,(hb.block bp hB).trans H⟩
theorem Qbv (b k:Nat)(d:k<5)(w:World):(Instr.index 325 (fvs b) (.int .i64 (k:Int))).run Tryz.prog w=.ok (.agg #[.pointer (some ⟨b,Yo k,none⟩),.int .i64 (Y0 k),.int .i64 (F9 k),.int .i64 (He k)]) w:=idx b k d w
def Hd.in_ (h:Hd)(k:Nat):Prop:=F9 k<=h.Eh k/\h.Eh k<=He k
def Hd.ok (h:Hd):Bool:=decide ((1<=h.kind/\h.kind<=6)/\(0<=h.level/\h.level<=8)/\(0<=h.addr/\h.addr<=2047)/\(0<=h.count/\h.count<=65535)/\0<=h.gen/\h.gen<=1099511627775)
theorem Hd.Qcn (h:Hd)(H:∀j<5,h.in_ j):h.ok=true:=by
 have h0:=H 0 (by omega);have h1:=H 1 (by omega);have h2:=H 2 (by omega);have b:=H 3 (by omega);have d:=H 4 (by omega);exact decide_eq_true ⟨h0,h1,h2,b,d⟩
theorem Hd.Qba (h:Hd)(H:h.ok=true)(j:Nat)(hj:j<5):h.in_ j:=by
 obtain⟨h0,h1,h2,b,d⟩:=of_decide_eq_true H;match j,hj with
 |0,_=>exact h0
 |1,_=>exact h1
 |2,_=>exact h2
 |3,_=>exact b
 |4,_=>exact d
theorem q3u (h:Hd)(w:World) :
  Calls Tryz.prog 198 #[.agg #[.int .i64 h.kind,.int .i64 h.addr,.int .i64 h.count,.int .i64 h.level,.int .i64 h.gen]] w λe w'=>e=.returned (.bool h.ok)/\Below w.1.size w w':=by
 go_enter Tryz.func198,Tryz.ntmps198
 go_wp2_with (go_at_call 240;refine (q8q w.1.size _).mono ?_;rintro e Q ⟨rfl,p⟩)
 have T:HB Q w.1.size h:=HB.below ⟨_,heap_alloc_new w _⟩ p (by simp);have E:Below w.1.size w Q:=(Qn).trans (p.mono (by simp));have O:=p.size;rw[World.size_alloc] at O;go_loopw [6] (λi wr=>∃k:Nat,k<=5/\i=.int .i64 (k:Int)/\(∀j<k,h.in_ j)/\HB wr w.1.size h/\Below w.1.size w wr/\w.1.size<wr.1.size) (λi _=>5-(intOf i).toNat)
 case atStart=>exact⟨0,by omega,rfl,λj U=>by omega,T,E,by omega⟩
 case round=>
  obtain⟨k,hk,rfl,A,H,B,u⟩:=hrel;by_cases D:k<5
  ·have I:=Qbv w.1.size k D;have F:=H.at_ k;have W:(0:Int)<=(k:Int):=by omega
   have G:∀o:Obj,(wr.alloc o).cell? ⟨w.1.size,Yo k,none⟩=some (.int .i64 (h.Eh k)):=λo=>((Below.refl _ _).alloc (Nat.le_refl _) o).cell u |>.trans F
   go_wp2;generalize f:wr.alloc _=b;have d:Below wr.1.size wr b:=by rw[<-f];exact Qn
   have hn:b.1[wr.1.size]?=some (.cells #[.pointer (some ⟨w.1.size,Yo k,none⟩),.int .i64 (Y0 k),.int .i64 (F9 k),.int .i64 (He k)] 324 (0,0)):=by rw[<-f];exact heap_alloc_new wr _
   have Y:b.1.size=wr.1.size+1:=by rw[<-f];simp
   clear f I;have q0:b.cell? ⟨wr.1.size,0,none⟩=some (.pointer (some ⟨w.1.size,Yo k,none⟩)):=by rw[cell_of_row _ _ _ _ _ _ hn];rfl
   have q2:b.cell? ⟨wr.1.size,2,none⟩=some (.int .i64 (F9 k)):=by rw[cell_of_row _ _ _ _ _ _ hn];rfl
   have q3:b.cell? ⟨wr.1.size,3,none⟩=some (.int .i64 (He k)):=by rw[cell_of_row _ _ _ _ _ _ hn];rfl
   have qc:b.cell? ⟨w.1.size,Yo k,none⟩=some (.int .i64 (h.Eh k)):=(d.cell u).trans F;have R:=H.below d u;have m:=B.trans (d.mono B.size);clear B H F G hn d;generalize Z:h.Eh k=x at *;generalize X:F9 k=lo at *;generalize hm:He k=P at *;by_cases h1:x<lo
   ·have y:h.ok=false:=by
     cases M:h.ok
     ·rfl
     ·have:=(h.Qba M k D).1;omega
    go_quiet (fail)
    go_wp2;go_ret;exact⟨by first|rfl|(rw[y];rfl),q1f m _⟩
   ·have g1:decide (x<lo)=false:=decide_eq_false h1;by_cases h2:P<x
    ·have y:h.ok=false:=by
      cases M:h.ok
      ·rfl
      ·have:=(h.Qba M k D).2;omega
     go_quiet (fail)
     go_wp2;go_ret;exact⟨by first|rfl|(rw[y];rfl),q1f m _⟩
    ·have g2:decide (P<x)=false:=decide_eq_false h2;go_quiet (fail)
     go_wp2;refine⟨⟨k+1,by omega,rfl,λj U=>?_,R.below (q1f (Below.refl b.1.size b) _) (by omega),q1f m _,by show w.1.size<b.1.size;omega⟩,by simp[intOf];omega⟩;by_cases J:j=k
     ·rw[J];unfold Hd.in_;rw[Z,X,hm];omega
     ·exact A j (by omega)
  ·have K:k=5:=by omega
   go_wp2;go_ret;exact⟨by rw[h.Qcn (by rw[<-K];exact A)];rfl,B⟩
def hdB (h:Hd):List UInt8:=Zc h.kind 1++(Zc h.level 1++(Zc h.addr 2++(Zc h.count 2++Zc h.gen 5)))
def Gf (h:Hd):Nat->List UInt8
 |0=>[]
 |k+1=>Gf h k++Zc (h.Eh k) (Y0 k).toNat
theorem qve (h:Hd)(k:Nat)(b:k<=5):(Gf h k).length<=11:=by
 match k,b with
 |0,_=>simp[Gf]
 |1,_=>simp[Gf,Ya,Y0]
 |2,_=>simp[Gf,Ya,Y0]
 |3,_=>simp[Gf,Ya,Y0]
 |4,_=>simp[Gf,Ya,Y0]
 |5,_=>simp[Gf,Ya,Y0]
theorem qvf (h:Hd):Gf h 5=hdB h:=by simp[Gf,hdB,Hd.Eh,Y0]
theorem qs8 (k:Nat):1<=Y0 k/\Y0 k<=5:=by
 match k with
 |0=>decide
 |1=>decide
 |2=>decide
 |3=>decide
 |_+4=>exact⟨by show (1:Int)<=5;omega,by show (5:Int)<=5;omega⟩
theorem qnw (h:Hd)(w:World) :
  Calls Tryz.prog 199 #[.agg #[.int .i64 h.kind,.int .i64 h.addr,.int .i64 h.count,.int .i64 h.level,.int .i64 h.gen]] w λe R=>∃A n c,e=.returned (.slice A n c)/\Sl R A n c (hdB h)/\Below w.1.size w R:=by
 go_enter Tryz.func199,Tryz.ntmps199
 go_wp2_with (go_at_call 240;refine (q8q w.1.size _).mono ?_;rintro e T ⟨rfl,u⟩)
 have X:HB T w.1.size h:=HB.below ⟨_,heap_alloc_new w _⟩ u (by simp);have F:Below w.1.size w T:=(Qn).trans (u.mono (by simp));have O:=u.size;rw[World.size_alloc] at O;go_loopw [3,7] (λs i wr=>∃(k:Nat) (A:Option Addr) (n c:Nat),k<=5/\s=.slice A n c/\i=.int .i64 (k:Int)/\Sl wr A n c (Gf h k)/\HB wr w.1.size h/\Below w.1.size w wr/\w.1.size<wr.1.size) (λ_ i _=>5-(intOf i).toNat)
 case atStart=>exact⟨0,none,0,0,by omega,rfl,rfl,Np _,X,F,by omega⟩
 case round=>
  obtain⟨k,A,n,c,hk,rfl,rfl,D,H,E,B⟩:=hrel;by_cases Y:k<5
  ·have I:=Qbv w.1.size k Y;have P:=H.at_ k;have a0:(0:Int)<=(k:Int):=by omega
   go_wp2;generalize m:wr.alloc _=p;have b:Below wr.1.size wr p:=by rw[<-m];exact Qn
   have hn:p.1[wr.1.size]?=some (.cells #[.pointer (some ⟨w.1.size,Yo k,none⟩),.int .i64 (Y0 k),.int .i64 (F9 k),.int .i64 (He k)] 324 (0,0)):=by rw[<-m];exact heap_alloc_new wr _
   have a2:p.1.size=wr.1.size+1:=by rw[<-m];simp
   clear m I;have q0:p.cell? ⟨wr.1.size,0,none⟩=some (.pointer (some ⟨w.1.size,Yo k,none⟩)):=by rw[cell_of_row _ _ _ _ _ _ hn];rfl
   have q1:p.cell? ⟨wr.1.size,1,none⟩=some (.int .i64 (Y0 k)):=by rw[cell_of_row _ _ _ _ _ _ hn];rfl
   have qc:p.cell? ⟨w.1.size,Yo k,none⟩=some (.int .i64 (h.Eh k)):=(b.cell B).trans P;have W:=H.below b B;have M:=D.below b;have y:=E.trans (b.mono E.size);have Q:=D.len;have a1:=qve h k hk;have Z:=qs8 k;have K:Bo (Gf h k) (h.Eh k) (Y0 k)=Gf h (k+1):=by unfold Bo;rw[if_pos (by omega)];rfl
   clear E H P hn b D;go_still_tail 7,(by kernel_rfl)
   change wpList _ _ _ _ _ p.drew;go_wp2_with (go_at_call 180;refine (qaf A n c (Gf h k) (h.Eh k) (Y0 k) _ M.drew (by omega)).mono ?_;rintro e w3 ⟨U,n3,c3,rfl,f,G⟩)
   rw[K] at f;have d:Below p.1.size p w3:=(Below.refl _ _).drew.trans G;exact⟨⟨k+1,U,n3,c3,by omega,rfl,rfl,f.sl,W.below d (by omega),y.trans (d.mono y.size),by have:=d.size;omega⟩,by simp[intOf];omega⟩
  ·have J:k=5:=by omega
   go_wp2;go_ret;rw[J,qvf] at D;exact⟨A,n,c,rfl,D,E⟩
def Us:Nat->Nat|0=>0|1=>1|2=>2|3=>4|4=>6|_=>11
def rdF (l:List UInt8)(k:Nat):Nat:=Za ((l.drop (Us k)).take (Y0 k).toNat)
def Qby (l:List UInt8):Nat->Hd
 |0=>Hd.zero
 |k+1=>(Qby l k).set k (rdF l k)
def Gu (l:List UInt8):Hd:=⟨Za (l.take 1),Za ((l.drop 2).take 2),Za ((l.drop 4).take 2),Za ((l.drop 1).take 1),Za ((l.drop 6).take 5)⟩
theorem qvg (l:List UInt8):Qby l 5=Gu l:=rfl
theorem qs9 (k:Nat)(b:k<5):Us (k+1)=Us k+(Y0 k).toNat:=by
 match k,b with
 |0,_=>rfl
 |1,_=>rfl
 |2,_=>rfl
 |3,_=>rfl
 |4,_=>rfl
theorem qy2 (k:Nat)(b:k<=5):Us k<=11:=by
 match k,b with
 |0,_=>decide
 |1,_=>decide
 |2,_=>decide
 |3,_=>decide
 |4,_=>decide
 |5,_=>decide
theorem HB.Uj {w:World}{bp:Nat}{h:Hd}(H:HB w bp h)(k:Nat)(x:Int):HB (w.setCell ⟨bp,Yo k,none⟩ (.int .i64 x)) bp (h.set k x):=by
 obtain⟨t,H⟩:=H;refine⟨t,(heap_setCell_same w bp (Yo k) _ t (.int .i64 x) H).trans ?_⟩;match k with
 |0=>rfl
 |1=>rfl
 |2=>rfl
 |3=>rfl
 |_+4=>rfl
theorem HB.fz {w:World}{bp:Nat}{h:Hd}(H:HB w bp h)(k:Nat):w.frozen? ⟨bp,Yo k,none⟩=false:=by
 obtain⟨t,H⟩:=H;unfold World.frozen?;rw[H];simp
theorem HB.zero (w:World)(t:TypeId):HB (w.alloc (.cells #[.int .i64 0,.int .i64 0,.int .i64 0,.int .i64 0,.int .i64 0] t)) w.1.size Hd.zero:=⟨t,heap_alloc_new w _⟩
theorem Own.turn {w w':World}{base n c:Nat}{e:TypeId}{A:Option Addr}{l:List UInt8}(h:Own w base e A n c l)(hk:∀g,base<=g->g<w.1.size->w'.1[g]?=w.1[g]?):Own w' base e A n c l:=by
 refine⟨h.1,?_⟩;rcases h.2 with d|⟨g,cap,b,d,h1,f,r⟩
 ·exact .inl d
 ·exact .inr ⟨g,cap,b,d,h1,(hk g h1 (Array.getElem?_eq_some_iff.1 f).1).trans f,r⟩
def Hd.vs (h:Hd):List Value:=[.int .i64 h.kind,.int .i64 h.addr,.int .i64 h.count,.int .i64 h.level,.int .i64 h.gen]
theorem HB.range {w:World}{bp:Nat}{h:Hd}(H:HB w bp h):w.rangeAt bp 0 h.vs:=λj v b=>by
 obtain⟨t,H⟩:=H;rw[cell_of_row _ _ _ _ _ _ H,Nat.zero_add];simpa [Hd.vs] using b
theorem HB.there {w:World}{bp:Nat}{h:Hd}(H:HB w bp h):w.there bp 0 5:=λj b=>by
 obtain⟨t,H⟩:=H;refine⟨?_,by unfold World.frozen?;rw[H];simp⟩;rw[cell_of_row _ _ _ _ _ _ H,Nat.zero_add,Array.getElem?_eq_getElem (by simpa using b)];rfl
theorem q8r {ops:Array Oper}{d:List Oper}{o:Oper}{a:Act}{w:World}{Q:Exit->Act->World->Prop}(m:o.guard=none)(x:Operand)(e:o.op=Op.load 198 x)
  (b:Nat) (p:a.eval x=.pointer (some ⟨b,0,none⟩)) (h:Hd) (H:HB w b h) (f:wpList Tryz.prog ops Q d (a.put o.dst h.v) w):wpList Tryz.prog ops Q (o::d) a w:=
 wpList_load_mid m _ x e b 0 p h.vs _ H.range Tryz.underlying198 rfl (by kernel_rfl) f
theorem Rl {ops:Array Oper}{d:List Oper}{o:Oper}{a:Act}{w:World}{Q:Exit->Act->World->Prop}(u:o.guard=none)(x y:Operand)(f:o.op=Op.store 198 x y)
  (b:Nat) (m:a.eval x=.pointer (some ⟨b,0,none⟩)) (h h0:Hd) (A:a.eval y=h.v) (H:HB w b h0) (E:b<w.1.size)
  (p:∀e,e.rangeAt b 0 h.vs->(∀B,B<=b->Below B w e)->Turn (λk=>k=b) w e->wpList Tryz.prog ops Q d (a.put o.dst undef) e):wpList Tryz.prog ops Q (o::d) a w:=
 wpList_store_mid u _ x y f b 0 h.vs.toArray m A H.there (by kernel_rfl) (by simp[Hd.vs,Value.oneCell'])
  (p _ (World.rangeAt_setCells_same _ _ _ _ H.there) (λB D=>(Um (S:=λk=>k=b) rfl h.vs 0 w).below (λx m=>by omega) (by omega)) (Um (S:=λk=>k=b) rfl h.vs 0 w))
theorem q58 (A:Option Addr)(c:Nat)(l:List UInt8)(w:World)(hs:Sl w A 11 c l) :
  Calls Tryz.prog 210 #[.slice A 11 c] w λe d=>e=.returned (Gu l).v/\Below w.1.size w d:=by
 go_enter Tryz.func210,Tryz.ntmps210
 go_wp2_with (go_at_call 240;refine (q8q (w.1.size+1) _).mono ?_;rintro e w2 ⟨rfl,f⟩)
 have a2:=f.size;simp only[World.size_alloc] at a2 f;have F:Below w.1.size w w2:=(((Below.refl _ w).alloc (Nat.le_refl _) _).alloc (by simp) _).trans (f.mono (by omega));have hR:HB w2 w.1.size Hd.zero:=((HB.zero w _).below (Qn) (by simp)).below f (by omega);have hH:HB w2 (w.1.size+1) Hd.zero:=by
  have:=HB.zero (w.alloc (.cells #[.int .i64 0,.int .i64 0,.int .i64 0,.int .i64 0,.int .i64 0] 198)) 198;rw[World.size_alloc] at this;exact this.below f (by omega)
 clear f;have hl:=hs.len;go_loopw [0,7] (λs i wr=>∃(k:Nat) (A:Option Addr) (c:Nat),k<=5/\s=.slice A (11-Us k) c/\i=.int .i64 (k:Int)/\Sl wr A (11-Us k) c (l.drop (Us k))/\HB wr w.1.size Hd.zero/\HB wr (w.1.size+1) (Qby l k)/\Below w.1.size w wr/\w.1.size+2<=wr.1.size) (λ_ i _=>5-(intOf i).toNat)
 case atStart=>exact⟨0,A,c,by omega,rfl,rfl,by simpa [Us] using hs.below F,hR,hH,F,by omega⟩
 case round=>
  obtain⟨k,A1,c1,hk,rfl,rfl,J,D,H,M,a5⟩:=hrel;by_cases h5:k<5
  ·have W:=Qbv (w.1.size+1) k h5;have a4:(0:Int)<=(k:Int):=by omega
   go_wp2;generalize B:wr.alloc _=b;have u:Below wr.1.size wr b:=by rw[<-B];exact Qn
   have hn:b.1[wr.1.size]?=some (.cells #[.pointer (some ⟨w.1.size+1,Yo k,none⟩),.int .i64 (Y0 k),.int .i64 (F9 k),.int .i64 (He k)] 324 (0,0)):=by rw[<-B];exact heap_alloc_new wr _
   have a7:b.1.size=wr.1.size+1:=by rw[<-B];simp
   clear B W;have q0:b.cell? ⟨wr.1.size,0,none⟩=some (.pointer (some ⟨w.1.size+1,Yo k,none⟩)):=by rw[cell_of_row _ _ _ _ _ _ hn];rfl
   have q1:b.cell? ⟨wr.1.size,1,none⟩=some (.int .i64 (Y0 k)):=by rw[cell_of_row _ _ _ _ _ _ hn];rfl
   have H1:=H.below u (by omega);have P:=D.below u (by omega);have a1:=J.below u;have E:=M.trans (u.mono M.size);have Z:=qs9 k h5;have a6:=qy2 (k+1) (by omega);have a3:=qs8 k;have U:(l.drop (Us k)).drop (Y0 k).toNat=l.drop (Us (k+1)):=by rw[List.drop_drop,Z]
   have a0:(Za ((l.drop (Us k)).take (Y0 k).toNat):Int)=(rdF l k:Int):=rfl;clear M H hn u J D;have HT:=λ(d:World) (h':Sl d A1 (11-Us k) c1 (l.drop (Us k)))=>q7f A1 (11-Us k) c1 (l.drop (Us k)) (Y0 k) d h' (by omega) (by omega) (by omega) (by omega)
   rw[U,a0] at HT;have Q:∀d:World,Turn (λk=>k=w.1.size+1) b d->d.cell? ⟨wr.1.size,0,none⟩=some (.pointer (some ⟨w.1.size+1,Yo k,none⟩))/\d.cell? ⟨wr.1.size,1,none⟩=some (.int .i64 (Y0 k))/\Turn (λk=>k=w.1.size+1) b d:=λd T=>⟨(World.cell?_of_block (T.block wr.1.size (by omega) (by show ¬(wr.1.size=w.1.size+1);omega))).trans q0,(World.cell?_of_block (T.block wr.1.size (by omega) (by show ¬(wr.1.size=w.1.size+1);omega))).trans q1,T⟩
   have TD:Turn (λk=>k=w.1.size+1) b b.drew:=Qu (Below.refl _ _).drew;go_region_held3 (λd=>d.cell? ⟨wr.1.size,0,none⟩=some (.pointer (some ⟨w.1.size+1,Yo k,none⟩))/\d.cell? ⟨wr.1.size,1,none⟩=some (.int .i64 (Y0 k))/\Turn (λk=>k=w.1.size+1) b d)
    (first|assumption|exact Q _ TD|(go_split_ands;exact Q _ (Turn.then ‹Turn (λk=>k=w.1.size+1) b _› (Qu ‹Below (World.heap _).size _ _›)))|(go_split_ands;exact Q _ (Turn.then ‹Turn (λk=>k=w.1.size+1) b _› (Dy _ rfl))))
    (first
     |(go_at_call 151;refine (HT _ a1.drew).mono ?_;rintro e K ⟨A3,n3,c3,rfl,y,R⟩;have m:Below b.1.size b K:=(Below.refl _ b).drew.trans R;have O:=H1.below m (by omega);have q5:=O.at_ k;have q6:=O.fz k)
     |fail)
   have Y:n3=11-Us (k+1):=by have:=y.len;rw[List.length_drop,hl] at this;omega
   subst Y;go_wp2;have G:Below (w.1.size+1) K (K.setCell ⟨w.1.size+1,Yo k,none⟩ (.int .i64 (rdF l k:Int))):=(Below.refl _ K).setCell (p:=⟨w.1.size+1,Yo k,none⟩) (Nat.le_refl _) _;have a8:=m.size;refine⟨⟨k+1,A3,c3,by omega,rfl,rfl,?_,(P.below m (by omega)).below G (by omega),O.Uj k _,(E.trans (m.mono E.size)).trans (G.mono (by omega)),by show w.1.size+2<=(K.setCell _ _).1.size;rw[World.size_setCell];omega⟩,by simp[intOf];omega⟩;exact (y.turn λg hg _=>Below.heap_setCell _ _ _ _ (by show g≠w.1.size+1;have h1:b.drew.1.size=b.1.size:=rfl;omega)).sl
  ·have X:k=5:=by omega
   go_wp2_with (first
    |(refine q8r rfl _ rfl _ rfl _ H ?_)
    |(refine Rl rfl _ _ rfl _ rfl _ _ rfl D (by omega) ?_;intro w4 I m _))
   refine bodyPost_ret (v:=(Gu l).v) ?_ rfl ⟨rfl,?_⟩
   ·rw[X,qvg] at I;exact q2o Tryz.results210 rfl (run_loadVar_mid _ w.1.size 0 198 _ _ I Tryz.underlying198 rfl (by kernel_rfl))
   ·exact M.trans (m _ (Nat.le_refl _))
theorem qdb {α β:Type}(f:α->β)(L:List α)(o:Nat)(b:List α):splice (L.map f) o (b.map f)=(splice L o b).map f:=by simp[splice]
theorem Own.whole {w:World}{base n g:Nat}{e:TypeId}{l:List UInt8}(h:Own w base e (some ⟨g,0,none⟩) n n l):base<=g/\w.1[g]?=some (.cells (l.map bv).toArray e (0,0))/\n<=maxLen:=by
 rcases h.2 with⟨d,_⟩|⟨D,cap,f,d,y,A,h1,h2,p,u⟩
 ·injection d with b;cases b
 ·injection d with b B m;injection b with b;injection b with b;subst b;subst m;refine⟨y,?_,h2⟩;rw[<-u,List.take_of_length_le (by simp[p])];exact A
theorem Own.of_whole {w:World}{base n g:Nat}{e:TypeId}{l:List UInt8}(hb:base<=g)(hg:w.1[g]?=some (.cells (l.map bv).toArray e (0,0)))(hl:l.length=n)(hm:n<=maxLen):Own w base e (some ⟨g,0,none⟩) n n l:=
 ⟨by simpa using hl,.inr ⟨g,n,_,rfl,hb,hg,Nat.le_refl _,hm,by simpa using hl,by rw[List.take_of_length_le (by simp[hl])]⟩⟩
theorem qbd {P:Program}{t e:TypeId}(T:Y6 P t e){w:World}{ops:Array Oper}{u:List Oper}{o:Oper}{a:Act}{Q:Exit->Act->World->Prop}(G:o.guard=none)(d s:Operand)
  (ho:o.op=.call { callee:=.builtin .copy,args:=#[d,s],argTypes:=#[t,t] })
  (base g n:Nat) (l:List UInt8) (p:Own w base e (some ⟨g,0,none⟩) n n l) (off f y:Nat) (hd:a.eval d=.slice (some ⟨g,off,none⟩) f y)
  (B:Option Addr) (m c:Nat) (K:List UInt8) (hs:a.eval s=.slice B m c) (I:Sl w B m c K) (H:m<=f) (O:off+m<=n)
  (W:∀D,Own D base e (some ⟨g,0,none⟩) n n (splice l off K)->Below base w D->wpList P ops Q u (a.put o.dst (goInt m)) D):wpList P ops Q (o::u) a w:=by
 obtain⟨i,Z,a0,J,a1⟩:=info_parts T.info;obtain⟨M,Y,hm⟩:=p.whole;have hl:=p.len;have A:=I.len;refine wpList_copy_splice G d s t t ho e T.sl (by rw[Z];simp[J]) _ _ _ _ _ _ hd hs g off (l.map bv) e Y (K.map bv) (by rw[List.length_map,A];exact (Nat.min_eq_left H).symm) (λh0=>?_) (by simp;omega) (qf3 _) base w (Below.refl _ _) M ?_
 ·rw[List.length_map] at h0;obtain⟨R,rfl,_⟩:=I.cell (k:=0) (by omega);refine⟨rfl,R,rfl,λj v hv=>?_⟩;obtain⟨U,E,_,X⟩:=I.2.2.2 j v hv;injection E with E;subst E;exact X
 ·intro D b F;have b:=b.out;rw[qdb] at b;have:=W D (Own.of_whole M b (by rw[length_splice _ _ _ (by omega),hl]) hm) F;rw[List.length_map,A];exact this
theorem qja {P:Program}{t e:TypeId}(T:Y6 P t e){w:World}{ops:Array Oper}{o:Oper}{a:Act}{K:Act->World->Prop}{Q:Exit->Act->World->Prop}{E:Prop}(G:o.guard=none)(d s:Operand)
  (ho:o.op=.call { callee:=.builtin .copy,args:=#[d,s],argTypes:=#[t,t] })
  (base g n:Nat) (l:List UInt8) (p:Own w base e (some ⟨g,0,none⟩) n n l) (off f u:Nat) (hd:a.eval d=.slice (some ⟨g,off,none⟩) f u)
  (B:Option Addr) (m c:Nat) (M:List UInt8) (hs:a.eval s=.slice B m c) (I:Sl w B m c M) (H:m<=f) (O:off+m<=n)
  (W:∀A,Own A base e (some ⟨g,0,none⟩) n n (splice l off M)->Below g w A->K (a.put o.dst (goInt m)) A):if Region.wanted o (yielded ops a.tmps)=true then Oper.wp P o a w K Q else E:=by
 obtain⟨i,hi,a0,J,a1⟩:=info_parts T.info;obtain⟨X,Z,hm⟩:=p.whole;have hl:=p.len;have y:=I.len;refine step_copy_splice G d s t t ho e T.sl (by rw[hi];simp[J]) _ _ _ _ _ _ hd hs g off (l.map bv) e Z (M.map bv) (by rw[List.length_map,y];exact (Nat.min_eq_left H).symm) (λh0=>?_) (by simp;omega) (qf3 _) g w (Below.refl _ _) (Nat.le_refl _) ?_
 ·rw[List.length_map] at h0;obtain⟨R,rfl,_⟩:=I.cell (k:=0) (by omega);refine⟨rfl,R,rfl,λj v hv=>?_⟩;obtain⟨U,D,_,Y⟩:=I.2.2.2 j v hv;injection D with D;subst D;exact Y
 ·intro A b F;have b:=b.out;rw[qdb] at b;have:=W A (Own.of_whole X b (by rw[length_splice _ _ _ (by omega),hl]) hm) F;rw[List.length_map,y];exact this
def Uw (l:List UInt8):List UInt8:=Zc (more 0 (l.drop 4):Nat) 4
theorem q8s (A:Option Addr)(n c:Nat)(l:List UInt8)(w:World)(u:Sl w A n c l)(hn:5<=n)(H:Tab w) :
  Calls Tryz.prog 200 #[.slice A n c] w λe G=>∃y F B,e=.returned (.slice y F B)/\Own G w.1.size 5 y F B (Uw l)/\Below w.1.size w G:=by
 have K:=u.cap;have hm:=u.max;unfold maxLen at hm;have D:=u.drop (k:=4) (by omega);have m:¬c=4:=by omega
 rw[if_neg m] at D;have p:=qwc 0 (l.drop 4);generalize E:more 0 (l.drop 4)=s at p;have d:Bo [] (s:Int) 4=Uw l:=by unfold Bo Uw;rw[E];simp
 go_enter Tryz.func200,Tryz.ntmps200
 go_wp2_with (first
  |(go_at_call 241;refine (qwd _ (n-4) (c-4) (l.drop 4) _ D H).mono ?_;rw[E];rintro e I ⟨rfl,rfl⟩)
  |(go_at_call 180;refine (qaf none 0 0 [] (s:Int) 4 _ (Np _) (by omega)).mono ?_;rw[d];rintro e I ⟨J,M,c3,rfl,b,f⟩))
 go_ret;exact⟨_,_,_,rfl,b,f⟩
def Y5 (l:List UInt8):Bool:=l.all (·==0)
theorem qbe (A:Option Addr)(n c:Nat)(l:List UInt8)(w:World)(d:Sl w A n c l) :
  Calls Tryz.prog 211 #[.slice A n c] w λe I=>e=.returned (.bool (Y5 l))/\w=I:=by
 have M:=d.cap;have hm:=d.max;have D:=d.len;unfold maxLen at hm;go_enter Tryz.func211,Tryz.ntmps211
 go_wp2;go_loop [7] (λi=>∃k:Nat,k<=n/\i=.int .i64 (k:Int)/\∀j<k,Yy l j=0) (λi=>n-(intOf i).toNat)
 case atStart=>exact⟨0,Nat.zero_le _,rfl,λj p=>by omega⟩
 case round=>
  obtain⟨k,O,rfl,b⟩:=hrel;by_cases y:k<n
  ·obtain⟨J,rfl,K,m⟩:=d.cell y;have E:=q6m l k;by_cases h0:Yy l k=0
   ·have f:(Yy l k:Int)=0:=by omega
    go_wp2;exact⟨⟨k+1,by omega,by go_num,λj p=>by by_cases u:j=k;(rw[u];exact h0);exact b j (by omega)⟩,by simp[intOf];omega⟩
   ·have f:¬(Yy l k:Int)=0:=by omega
    have B:Y5 l=false:=by
     cases G:Y5 l
     ·rfl
     ·have:=List.all_eq_true.1 G (l.getD k 0) (by rw[List.getD_eq_getElem?_getD,List.getElem?_eq_getElem (by omega)];simp);simp at this;unfold Yy at h0;rw[List.getD_eq_getElem?_getD,this] at h0;exact absurd rfl h0
    go_wp2;go_ret;exact⟨by first|rfl|(rw[B];rfl),rfl⟩
  ·have F:k=n:=by omega
   have B:Y5 l=true:=by
    refine List.all_eq_true.2 λx H=>?_
    obtain⟨j,p,rfl⟩:=List.getElem_of_mem H;have:=b j (by omega);unfold Yy at this;rw[List.getD_eq_getElem?_getD,List.getElem?_eq_getElem p] at this;simpa using UInt8.toNat_inj.1 this
   go_wp2;go_ret;exact⟨by first|rfl|(rw[B];rfl),rfl⟩
def Yc (h:Hd)(l:List UInt8):List UInt8:=hdB h++(List.replicate 5 0++(l++List.replicate (236-l.length) 0))
def Zt (h:Hd)(l:List UInt8):List UInt8:=Zc (more 0 (Yc h l):Nat) 4++Yc h l
def Xb (h:Hd)(l:List UInt8):Int:=if h.ok=true then if l.length<=236 then 0 else 7 else 1
def Xg (h:Hd)(l:List UInt8):List UInt8:=if h.ok=true then if l.length<=236 then Zt h l else [] else []
theorem q6i (h:Hd):(hdB h).length=11:=by simp[hdB,Ya]
theorem qsa (h:Hd)(l:List UInt8)(b:l.length<=236):(Yc h l).length=252:=by simp[Yc,q6i];omega
theorem q9w (h:Hd)(l:List UInt8)(b:l.length<=236):(Zt h l).length=256:=by simp[Zt,qsa h l b,Ya]
def zrs (n:Nat):List UInt8:=List.replicate n 0
theorem q7g {P:Program}{t e:TypeId}(w:World)(T:Y6 P t e){ops:Array Oper}{b:List Oper}{o:Oper}{a:Act}{Q:Exit->Act->World->Prop}
  (A:o.guard=none) (l c:Operand) (d:o.op=Op.makeSlice t l c) (m kc:IntKind) (n:Nat) (B:a.eval l=.int m (n:Int)) (y:a.eval c=.int kc (n:Int)) (p:n<=281474976710656)
  (u:∀f,Own f w.1.size e (some ⟨w.1.size,0,none⟩) n n (zrs n)->Below w.1.size w f->wpList P ops Q b (a.put o.dst (.slice (some ⟨w.1.size,0,none⟩) n n)) f) :
  wpList P ops Q (o::b) a w:=qf4 w T A l c d m kc n B y p u
theorem qdc {α:Type}(X Y Z C:List α)(k:Nat)(b:X.length=k)(h:Y.length=C.length):splice (X++(Y++Z)) k C=X++(C++Z):=by
 subst b;unfold splice;have e:(X++(Y++Z)).drop (X.length+Y.length)=Z:=by rw[<-List.append_assoc];exact List.drop_left' (by simp)
 rw[List.take_left' rfl,<-h,e]
theorem Qch (h:Hd)(l:List UInt8)(f:l.length<=236):splice (splice (zrs 256) 4 (hdB h)) 20 l=List.replicate 4 0++Yc h l:=by
 have e:(zrs 256)=List.replicate 4 0++(List.replicate 11 0++List.replicate 241 0):=by
  unfold zrs;simp only[List.replicate_append_replicate]
 have b:List.replicate 241 (0:UInt8)=List.replicate 5 0++(List.replicate l.length 0++List.replicate (236-l.length) 0):=by
  simp only[List.replicate_append_replicate];congr 1;omega
 rw[e,qdc _ _ _ _ 4 (by simp) (by simp[q6i]),b];have d:List.replicate 4 (0:UInt8)++(hdB h++(List.replicate 5 0++(List.replicate l.length 0++List.replicate (236-l.length) 0)))=(List.replicate 4 0++(hdB h++List.replicate 5 0))++(List.replicate l.length 0++List.replicate (236-l.length) 0):=by simp
 rw[d,qdc _ _ _ _ 20 (by simp[q6i]) (by simp)];unfold Yc;simp
theorem Qcy (h:Hd)(l:List UInt8)(b:l.length<=236):splice (splice (splice (zrs 256) 4 (hdB h)) 20 l) 0 (Uw (splice (splice (zrs 256) 4 (hdB h)) 20 l))=Zt h l:=by
 rw[Qch h l b];unfold Uw Zt splice;have e:(List.replicate 4 (0:UInt8)++Yc h l).drop 4=Yc h l:=List.drop_left' (by simp);rw[e,Ya];simp
theorem qvh (l:List UInt8):(Uw l).length=4:=by simp[Uw,Ya]
theorem q59 (w:World)(base:Nat)(e:TypeId):Own w base e none 0 0 []:=⟨by simp,.inl ⟨rfl,rfl⟩⟩
theorem q5t (h:Hd)(A:Option Addr)(n c:Nat)(l:List UInt8)(w:World)(U:Sl w A n c l)(Z:Tab w) :
  Calls Tryz.prog 122 #[.agg #[.int .i64 h.kind,.int .i64 h.addr,.int .i64 h.count,.int .i64 h.level,.int .i64 h.gen],.slice A n c] w λe p=>
   ∃A' n' c',e=.returned (.tuple #[.slice A' n' c',.int .i64 (Xb h l)])/\Own p w.1.size 5 A' n' c' (Xg h l)/\(Xb h l=0->∃g,A'=some ⟨g,0,none⟩/\n'=256/\c'=256)/\Below w.1.size w p:=by
 have b2:=U.len;have b1:=U.cap;have hm:=U.max;unfold maxLen at hm;by_cases f:h.ok=true
 ·by_cases J:l.length<=236
  ·have P:Xb h l=0:=by unfold Xb;rw[if_pos f,if_pos J]
   have M:Xg h l=Zt h l:=by unfold Xg;rw[if_pos f,if_pos J]
   rw[P,M];have hn:¬(236:Int)<(n:Int):=by omega
   go_enter Tryz.func122,Tryz.ntmps122
   go_wp2_with (first
    |(go_at_call 198;refine (q3u h _).mono ?_;rw[f];rintro e K ⟨rfl,d⟩)
    |(at_make;refine q7g _ Az rfl _ _ rfl _ _ 256 rfl rfl (by omega) ?_)
    |fail)
   intro u m y;have I:HB u w.1.size h:=(HB.below ⟨_,heap_alloc_new w _⟩ d (by simp)).below y (by have:=d.size;rw[World.size_alloc] at this;omega);have b0:=d.size;have b5:=y.size;rw[World.size_alloc] at b0;have F:Below w.1.size w u:=(Qn).trans ((d.mono (by simp)).trans (y.mono (by omega)));have a6:=U.below F;have a8:=Z.below F Z.1;have m:=m.less (show w.1.size<=K.1.size by omega);have L2:=Qch h l J;have L3:=Qcy h l J;have hh:=q6i h;have r0:u.cell? ⟨w.1.size,0,none⟩=some (.int .i64 h.kind):=I.at_ 0;have r1:u.cell? ⟨w.1.size,1,none⟩=some (.int .i64 h.addr):=I.at_ 2;have r2:u.cell? ⟨w.1.size,2,none⟩=some (.int .i64 h.count):=I.at_ 3;have r3:u.cell? ⟨w.1.size,3,none⟩=some (.int .i64 h.level):=I.at_ 1;have r4:u.cell? ⟨w.1.size,4,none⟩=some (.int .i64 h.gen):=I.at_ 4;clear d y I;go_wp2_with fail
   have hS:∀p:World,Below (w.1.size+1) u p->p.cell? ⟨w.1.size,0,none⟩=some (.int .i64 h.kind)/\p.cell? ⟨w.1.size,1,none⟩=some (.int .i64 h.addr)/\p.cell? ⟨w.1.size,2,none⟩=some (.int .i64 h.count)/\
    p.cell? ⟨w.1.size,3,none⟩=some (.int .i64 h.level)/\p.cell? ⟨w.1.size,4,none⟩=some (.int .i64 h.gen)/\Below (w.1.size+1) u p:=λp b=>
    ⟨(b.cell (by show w.1.size<_;omega)).trans r0,(b.cell (by show w.1.size<_;omega)).trans r1,(b.cell (by show w.1.size<_;omega)).trans r2,(b.cell (by show w.1.size<_;omega)).trans r3,(b.cell (by show w.1.size<_;omega)).trans r4,b⟩
   have BD:Below (w.1.size+1) u u.drew:=(Below.refl _ _).drew;go_region_held3 (λp=>p.cell? ⟨w.1.size,0,none⟩=some (.int .i64 h.kind)/\p.cell? ⟨w.1.size,1,none⟩=some (.int .i64 h.addr)/\p.cell? ⟨w.1.size,2,none⟩=some (.int .i64 h.count)/\
    p.cell? ⟨w.1.size,3,none⟩=some (.int .i64 h.level)/\p.cell? ⟨w.1.size,4,none⟩=some (.int .i64 h.gen)/\Below (w.1.size+1) u p)
    (first|assumption|exact hS _ BD|exact hS _ ‹Below (w.1.size+1) u _›)
    (first
     |(go_at_call 199;refine (qnw h _).mono ?_;rintro e w4 ⟨A4,n4,c4,rfl,W,Q⟩;have b3:=W.len;have a0:Below (w.1.size+1) u w4:=BD.trans (Q.mono (by show _<=u.1.size;omega));have X:=m.drew.below Q)
     |(refine qja Az rfl (.tmp 15) (.tmp 17) rfl w.1.size K.1.size 256 (zrs 256) (by assumption) 4 252 252 rfl _ _ _ (hdB h) rfl (by assumption) (by omega) (by omega) ?_;intro w5 Y a3;have a1:Below (w.1.size+1) u w5:=a0.trans (a3.mono (by omega)))
     |fail)
   have O:Below w.1.size w w5:=F.trans (a1.mono (by omega));have a7:=U.below O;clear a6 a8 W X m r0 r1 r2 r3 r4 hS BD;go_wp2_with (first
    |((with_reducible show wpList _ _ _ _ _ _);refine qbd Az rfl (.tmp 20) (.tmp 21) rfl w.1.size K.1.size 256 _ Y 20 236 236 rfl A n c l rfl a7 (by omega) (by omega) ?_;intro w6 B a4;have G:=O.trans a4;have a9:=Z.below G Z.1)
    |(go_at_call 200;refine (q8s _ 256 256 _ _ B.sl (by omega) a9).mono ?_;rintro e w7 ⟨A7,n7,c7,rfl,D,R⟩;have b4:n7<=4:=(by have h7:=D.len;rw[qvh] at h7;omega);have H:=B.below R)
    |((with_reducible show wpList _ _ _ _ _ _);refine qbd Az rfl (.tmp 23) (.tmp 25) rfl w.1.size K.1.size 256 _ H 0 256 256 rfl A7 n7 c7 _ rfl D.sl (by omega) (by omega) ?_;intro w8 E a5;have a2:=G.trans ((R.mono (Below.size G)).trans a5))
    |fail)
   go_ret2;rw[L3] at E;exact⟨_,_,_,rfl,E,λ_=>⟨_,rfl,rfl,rfl⟩,a2⟩
  ·have P:Xb h l=7:=by unfold Xb;rw[if_pos f,if_neg J]
   have M:Xg h l=[]:=by unfold Xg;rw[if_pos f,if_neg J]
   rw[P,M];have hn:(236:Int)<(n:Int):=by omega
   go_enter Tryz.func122,Tryz.ntmps122
   go_wp2_with (first
    |(go_at_call 198;refine (q3u h _).mono ?_;rw[f];rintro e K ⟨rfl,d⟩))
   go_ret2;exact⟨_,_,_,rfl,q59 _ _ _,λh=>by omega,(Qn).trans (d.mono (by simp))⟩
 ·have T:h.ok=false:=by simpa using f
  have P:Xb h l=1:=by unfold Xb;rw[if_neg f]
  have M:Xg h l=[]:=by unfold Xg;rw[if_neg f]
  rw[P,M];go_enter Tryz.func122,Tryz.ntmps122
  go_wp2_with (first
   |(go_at_call 198;refine (q3u h _).mono ?_;rw[T];rintro e K ⟨rfl,d⟩))
  go_ret2;exact⟨_,_,_,rfl,q59 _ _ _,λh=>by omega,(Qn).trans (d.mono (by simp))⟩
theorem q0x {m:Func}{p a b:Tmp}{ty:TypeId}{f:Addr}{v:Value}{P:Program}{w:World}{d:Array Value}(h:m.results=#[.cell p ty,.tmp a,.tmp b])(y:d.getD p undef=.pointer (some f))(u:(loadVar ty f).run P w=.ok v w) :
  (results m d).run P w=.ok (.tuple #[v,d.getD a undef,d.getD b undef]) w:=by
 have e:(results m d).run P w=((asAddr (d.getD p undef)).run P w).andThen λf A=>((loadVar ty f).run P A).andThen λv B=>.ok (.tuple #[v,d.getD a undef,d.getD b undef]) B:=by
  simp only[results,h];simp[Sem.run_bind,Result.andThen]
 rw[e,y];simp[asAddr,u]
theorem q8t {w:World}{b:Nat}{h:Hd}(d:w.rangeAt b 0 h.vs):(loadVar 198 ⟨b,0,none⟩).run Tryz.prog w=.ok h.v w:=
 run_loadVar_mid w b 0 198 h.vs _ d Tryz.underlying198 rfl (by kernel_rfl)
theorem q7h {w:World}{A:Option Addr}{n c:Nat}{l:List UInt8}(h:Sl w A n c l):(convert 48 9 (.slice A n c)).run Tryz.prog w=.ok (.string ⟨l.toArray⟩) w:=
 q67 _ _ _ Az Tryz.underlying5 Tryz.underlying9 h
def okB (l:List UInt8):Bool:=decide (l.length=256/\l.take 4=Uw l/\(Gu ((l.drop 4).take 11)).ok=true/\Y5 ((l.drop 15).take 5)=true)
def Yf (l:List UInt8):Hd:=if okB l=true then Gu ((l.drop 4).take 11) else Hd.zero
def Ul (l:List UInt8):List UInt8:=if okB l=true then l.drop 20 else []
def Nh (l:List UInt8):Int:=if okB l=true then 0 else 3
theorem q8u {ops:Array Oper}{d:List Oper}{o:Oper}{a:Act}{w:World}{Q:Exit->Act->World->Prop}(m:o.guard=none)(x:Operand)(e:o.op=Op.load 198 x)
  (b:Nat) (p:a.eval x=.pointer (some ⟨b,0,none⟩)) (h:Hd) (H:w.rangeAt b 0 h.vs) (f:wpList Tryz.prog ops Q d (a.put o.dst h.v) w):wpList Tryz.prog ops Q (o::d) a w:=
 wpList_load_mid m _ x e b 0 p h.vs _ H Tryz.underlying198 rfl (by kernel_rfl) f
theorem q4l {w w':World}{b:Nat}{vs:List Value}(h:w.rangeAt b 0 vs){B:Nat}(e:Below B w w')(d:b<B):w'.rangeAt b 0 vs:=λj v f=>(e.cell (p:=⟨b,0+j,none⟩) d).trans (h j v f)
theorem qy3 (n:Nat):(zrs n).length=n:=List.length_replicate
theorem qnx (L C:List UInt8)(h:L.length=C.length):splice L 0 C=C:=by
 unfold splice;rw[List.take_zero,List.nil_append,List.drop_of_length_le (by omega),List.append_nil]
theorem Lu {w b d:World}{H:Hd}{o:Obj}(p:d.rangeAt b.1.size 0 H.vs)(e:∀B,B<=b.1.size->Below B (b.alloc o) d)(f:HB b w.1.size Hd.zero)(m:Below w.1.size w b)(u:w.1.size<b.1.size) :
  d.rangeAt b.1.size 0 H.vs/\Below w.1.size w d/\HB d w.1.size Hd.zero/\b.1.size<d.1.size:=by
 have h1:Below b.1.size b d:=((Below.refl _ _).alloc (Nat.le_refl _) o).trans (e _ (Nat.le_refl _));have h2:=(e _ (Nat.le_refl _)).size;rw[World.size_alloc] at h2;exact⟨p,m.trans (h1.mono (by omega)),f.below h1 u,by omega⟩
theorem cuts {w:World}{b:Addr}{c:Nat}{l:List UInt8}(d:Sl w (some b) 256 c l):Sl w (some (b.add 15)) 5 (c-15) ((l.drop 15).take 5)/\Sl w (some (b.add 20)) 236 (c-20) (l.drop 20):=by
 have e:=d.cap;have h1:=(d.drop (k:=15) (by omega)).take (k:=5) (by omega);have h2:=d.drop (k:=20) (by omega);rw[if_neg (by omega)] at h1 h2;exact⟨h1,h2⟩
def q24 (A:Option Addr)(n c:Nat)(l:List UInt8)(w:World):Prop:=
  Calls Tryz.prog 139 #[.slice A n c] w λe m=>
   ∃b f d,e=.returned (.tuple #[(Yf l).v,.slice b f d,.int .i64 (Nh l)])/\Own m w.1.size 5 b f d (Ul l)/\Below w.1.size w m
theorem qjb {l:List UInt8}(h:okB l=false):Yf l=Hd.zero/\Ul l=[]/\Nh l=3:=by
 unfold Yf Ul Nh;rw[h];exact⟨rfl,rfl,rfl⟩
theorem q7i {l:List UInt8}(h:okB l=true):Yf l=Gu ((l.drop 4).take 11)/\Ul l=l.drop 20/\Nh l=0:=by
 unfold Yf Ul Nh;rw[h];exact⟨rfl,rfl,rfl⟩
theorem qy4 (ad:Addr)(c:Nat)(l:List UInt8)(w:World)(hs:Sl w (some ad) 256 c l)(ht:Tab w)(b0:l.take 4=Uw l):q24 (some ad) 256 c l w:=by
 unfold q24;have Z:=hs.len;have b9:=hs.cap;have hm:=hs.max;unfold maxLen at hm;have HZ:=HB.zero w 198;have G:Below w.1.size w (w.alloc (.cells #[.int .i64 0,.int .i64 0,.int .i64 0,.int .i64 0,.int .i64 0] 198)):=Qn;have b2:w.1.size<(w.alloc (.cells #[.int .i64 0,.int .i64 0,.int .i64 0,.int .i64 0,.int .i64 0] 198)).1.size:=by simp
 obtain⟨H,hH⟩:∃H,Gu ((l.drop 4).take 11)=H:=⟨_,rfl⟩;have a5:=congrArg (λx:List UInt8=>(⟨x.toArray⟩:ByteArray)) b0;obtain⟨S1,hS⟩:∃S1,(⟨(Uw l).toArray⟩:ByteArray)=S1:=⟨_,rfl⟩;have a6:(⟨(l.take 4).toArray⟩:ByteArray)=S1:=a5.trans hS;clear a5;go_enter Tryz.func139,Tryz.ntmps139
 go_wp2;generalize (w.alloc (.cells #[.int .i64 0,.int .i64 0,.int .i64 0,.int .i64 0,.int .i64 0] 198))=w1 at HZ G b2 ⊢;have P:=hs.below G;have b8:=ht.below G ht.1;have k1:=q7h (P.take (k:=4) (by omega)).drew;rw[a6] at k1;go_region_with (first
  |(go_at_call 200;refine (q8s _ 256 c l _ P.drew (by omega) b8).mono ?_;rintro e w3 ⟨A3,n3,c3,rfl,a0,a8⟩;have y:Below w1.1.size w1 w3:=Below.trans (Below.refl _ w1).drew a8;have k2:=q7h ((P.below y).take (k:=4) (by omega));have k3:=q7h a0.sl;rw[a6] at k2;rw[hS] at k3)
  |fail)
 all_goals
  have a1:=HZ.below y b2;have c8:=y.size;have b6:=P.below y;have B:=G.trans (y.mono G.size);have X:=(b6.drop (k:=4) (by omega)).take (k:=11) (by omega);rw[if_neg (show ¬c=4 by omega)] at X;clear k1 k2 k3 a0 a8 P HZ
  cases K:H.ok
  ·have a2:okB l=false:=decide_eq_false (λh=>by have:=h.2.2.1;rw[hH,K] at this;cases this);go_wp2_with (first
    |(go_at_call 210;refine (q58 _ (c-4) _ _ X).mono ?_;rw[hH];rintro e W ⟨rfl,f⟩;have D:=a1.below f (by omega);have b3:=f.size)
    |(refine Rl rfl (.tmp 5) (.tmp 22) rfl W.1.size rfl H _ rfl (HB.zero W _) (by simp) ?_;intro w6 M I _;obtain⟨d,u,E,T⟩:=Lu M I D (B.trans (f.mono B.size)) (by omega))
    |(refine q8u rfl (.tmp 5) rfl W.1.size rfl H (by first|exact d|assumption) ?_)
    |(go_at_call 198;refine (q3u H _).mono ?_;rw[K];rintro e w7 ⟨rfl,b⟩;have F:=E.below b (by omega);have m:=u.trans (b.mono u.size);have a3:=q4l d b T;have b4:=b.size;have R:=hs.below m;obtain⟨A,Q⟩:=cuts R)
    |(refine Rl rfl (.tmp 2) (.tmp 32) rfl w.1.size rfl Hd.zero _ rfl F (by omega) ?_;intro wz O J Tz)
    |fail)
   refine bodyPost_ret (q0x Tryz.results139 rfl (q8t O)) rfl ?_;obtain⟨h1,h2,h3⟩:=qjb (l:=l) a2;rw[h1,h2,h3];exact⟨_,_,_,rfl,q59 _ _ _,m.trans (J _ (Nat.le_refl _))⟩
  ·cases Y:Y5 ((l.drop 15).take 5)
   ·have a2:okB l=false:=decide_eq_false (λh=>by have:=h.2.2.2;rw[Y] at this;cases this);go_wp2_with (first
     |(go_at_call 210;refine (q58 _ (c-4) _ _ X).mono ?_;rw[hH];rintro e W ⟨rfl,f⟩;have D:=a1.below f (by omega);have b3:=f.size)
     |(refine Rl rfl (.tmp 5) (.tmp 22) rfl W.1.size rfl H _ rfl (HB.zero W _) (by simp) ?_;intro w6 M I _;obtain⟨d,u,E,T⟩:=Lu M I D (B.trans (f.mono B.size)) (by omega))
     |(refine q8u rfl (.tmp 5) rfl W.1.size rfl H (by first|exact d|assumption) ?_)
     |(go_at_call 198;refine (q3u H _).mono ?_;rw[K];rintro e w7 ⟨rfl,b⟩;have F:=E.below b (by omega);have m:=u.trans (b.mono u.size);have a3:=q4l d b T;have b4:=b.size;have R:=hs.below m;obtain⟨A,Q⟩:=cuts R)
     |(go_at_call 211;refine (qbe _ 5 (c-15) _ w7 A).mono ?_;rw[Y];rintro e w8 ⟨rfl,rfl⟩)
     |(refine Rl rfl (.tmp 2) (.tmp 32) rfl w.1.size rfl Hd.zero _ rfl F (by omega) ?_;intro wz O J Tz)
     |fail)
    refine bodyPost_ret (q0x Tryz.results139 rfl (q8t O)) rfl ?_;obtain⟨h1,h2,h3⟩:=qjb (l:=l) a2;rw[h1,h2,h3];exact⟨_,_,_,rfl,q59 _ _ _,m.trans (J _ (Nat.le_refl _))⟩
   ·have b1:okB l=true:=decide_eq_true ⟨Z,b0,by rw[hH];exact K,Y⟩;go_wp2_with (first
     |(go_at_call 210;refine (q58 _ (c-4) _ _ X).mono ?_;rw[hH];rintro e W ⟨rfl,f⟩;have D:=a1.below f (by omega);have b3:=f.size)
     |(refine Rl rfl (.tmp 5) (.tmp 22) rfl W.1.size rfl H _ rfl (HB.zero W _) (by simp) ?_;intro w6 M I _;obtain⟨d,u,E,T⟩:=Lu M I D (B.trans (f.mono B.size)) (by omega))
     |(refine q8u rfl (.tmp 5) rfl W.1.size rfl H (by first|exact d|assumption) ?_)
     |(go_at_call 198;refine (q3u H _).mono ?_;rw[K];rintro e w7 ⟨rfl,b⟩;have F:=E.below b (by omega);have m:=u.trans (b.mono u.size);have a3:=q4l d b T;have b4:=b.size;have R:=hs.below m;obtain⟨A,Q⟩:=cuts R)
     |(go_at_call 211;refine (qbe _ 5 (c-15) _ w7 A).mono ?_;rw[Y];rintro e w8 ⟨rfl,rfl⟩)
     |(at_make;refine q7g _ Az rfl _ _ rfl _ _ 236 rfl rfl (by omega) ?_;intro w9 b5 a9;have b7:=Sl.below Q a9)
     |((with_reducible show wpList _ _ _ _ _ _);refine qbd Az rfl (.tmp 34) (.tmp 36) rfl w7.1.size w7.1.size 236 _ b5 0 236 236 rfl _ 236 (c-20) _ rfl b7 (by omega) (by omega) ?_;intro c9 U a7;have p:=a9.trans a7;have a4:=F.below p (by omega);have c6:=q4l a3 p (by omega);have c7:=p.size)
     |(refine Rl rfl (.tmp 2) (.tmp 38) rfl w.1.size rfl H _ rfl a4 (by omega) ?_;intro wz O J Tz)
     |fail)
    refine bodyPost_ret (q0x Tryz.results139 rfl (q8t O)) rfl ?_;obtain⟨h1,h2,h3⟩:=q7i (l:=l) b1;rw[h1,h2,h3,hH];rw[qnx _ _ (by rw[qy3,List.length_drop,Z])] at U;exact⟨_,_,_,rfl,(U.turn λg hg hl=>Tz.block g hl (by show ¬g=w.1.size;omega)).less m.size,m.trans ((p.mono m.size).trans (J _ (Nat.le_refl _)))⟩
