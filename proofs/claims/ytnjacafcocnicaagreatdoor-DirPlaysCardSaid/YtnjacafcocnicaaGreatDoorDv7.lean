/- Seal's fields, valid, packed, unpacked: the header's five numbers as a block holds them -/
import Derived.Test.YtnjacafcocnicaaGreatDoorDv3
import Derived.Test.YtnjacafcocnicaaGreatDoorDv5
import Derived.BigRegion
import Derived.StillTailTactics
import Derived.Deep.RegionHeld3
import Derived.Laws.CopyOwn
namespace Go.Proofs.YtnjacafcocnicaaGreatDoor
open Go Go.RowKit Go.Proofs Tryz
set_option maxHeartbeats 4000000
set_option maxRecDepth 10000
structure Hd where
 kind:Int
 addr:Int
 count:Int
 level:Int
 gen:Int
def Hd.v (h:Hd):Value:=.agg #[.int .i64 h.kind,.int .i64 h.addr,.int .i64 h.count,.int .i64 h.level,.int .i64 h.gen]
def Hd.zero:Hd:=⟨0,0,0,0,0⟩
def Y0:Nat->Nat|0=>0|1=>3|2=>1|3=>2|_=>4
def Wj:Nat->Int|0=>1|1=>1|2=>2|3=>2|_=>5
def Lp:Nat->Int|0=>1|_=>0
def Lr:Nat->Int|0=>6|1=>8|2=>2047|3=>65535|_=>1099511627775
def Hd.Fj (h:Hd):Nat->Int|0=>h.kind|1=>h.level|2=>h.addr|3=>h.count|_=>h.gen
def Hd.set (h:Hd)(k:Nat)(x:Int):Hd:=match k with
 |0=>{ h with kind:=x }
 |1=>{ h with level:=x }
 |2=>{ h with addr:=x }
 |3=>{ h with count:=x }
 |_=>{ h with gen:=x }
def fv (e k:Nat):Value:=.agg #[.pointer (some ⟨e,Y0 k,none⟩),.int .i64 (Wj k),.int .i64 (Lp k),.int .i64 (Lr k)]
def Ej (e:Nat):LV:=[.pointer (some ⟨e,0,none⟩),.int .i64 1,.int .i64 1,.int .i64 6,.pointer (some ⟨e,3,none⟩),.int .i64 1,.int .i64 0,.int .i64 8,
 .pointer (some ⟨e,1,none⟩),.int .i64 2,.int .i64 0,.int .i64 2047,.pointer (some ⟨e,2,none⟩),.int .i64 2,.int .i64 0,.int .i64 65535,.pointer (some ⟨e,4,none⟩),.int .i64 5,.int .i64 0,.int .i64 1099511627775]
def fvs (e:Nat):Value:=.agg (Ej e).toArray
def HB (w:WD)(e:Nat)(h:Hd):Prop:=∃t,w.1[e]?=some (.cells #[.int .i64 h.kind,.int .i64 h.addr,.int .i64 h.count,.int .i64 h.level,.int .i64 h.gen] t (0,0))
theorem qu2 (w:WD)(e:Array Value)(t:TypeId):(w.alloc (.cells e t)).there w.1.size 0 e.size:=λj m=>by
 have f:(w.alloc (.cells e t)).1[w.1.size]?=some (.cells e t (0,0)):=BE w _;refine⟨?_,by unfold World.frozen?;rw[f];simp⟩;rw[cell_of_row _ _ _ _ _ _ f,AT,Array.getElem?_eq_getElem m];rfl
theorem q2w {m:Func}{p:Tmp}{ty:TypeId}{q:Addr}{v:Value}{P:Program}{w:WD}{f:Array Value}(h:m.results=#[.cell p ty])(y:f.getD p undef=.pointer (some q))(u:(loadVar ty q).run P w=.ok v w) :
  (results m f).run P w=.ok v w:=by
 have e:(results m f).run P w=((asAddr (f.getD p undef)).run P w).andThen λa A=>(loadVar ty a).run P A:=by
  simp only[results,h];simp[Sem.run_bind,Result.andThen];try rfl
 rw[e,y];simp[asAddr,u]
theorem idx (e k:Nat)(f:k<5)(w:WD):(Instr.index 262 (fvs e) (.int .i64 (k:Int))).run prog w=.ok (fv e k) w:=by
 match k,f with
 |0,_=>show (Instr.index 262 (fvs e) (.int .i64 0)).run prog w=_;kernel_rfl
 |1,_=>show (Instr.index 262 (fvs e) (.int .i64 1)).run prog w=_;kernel_rfl
 |2,_=>show (Instr.index 262 (fvs e) (.int .i64 2)).run prog w=_;kernel_rfl
 |3,_=>show (Instr.index 262 (fvs e) (.int .i64 3)).run prog w=_;kernel_rfl
 |4,_=>show (Instr.index 262 (fvs e) (.int .i64 4)).run prog w=_;kernel_rfl
theorem q8r (f:Nat)(w:WD) :
  Calls prog 179 #[.pointer (some ⟨f,0,none⟩)] w λe B=>e=.returned (fvs f)/\Below w.1.size w B:=by
 go_enter func179,ntmps179
 go_wp2;generalize p:w.alloc _=m;go_still_tail 21,(by kernel_rfl)
 change wpList _ _ _ _ _ m.drew;have q:Below w.1.size w m:=by rw[<-p];exact Qi
 have A:m.drew.there w.1.size 0 20:=by
  show m.there w.1.size 0 20;rw[<-p];exact qu2 w _ _
 clear p;refine wpList_store_mid rfl _ _ _ rfl w.1.size 0 (Ej f).toArray rfl rfl A (by kernel_rfl) (by simp[Ej,Value.oneCell']) ?_;have y:(m.drew.setCells w.1.size 0 (Ej f)).rangeAt w.1.size 0 (Ej f):=World.rangeAt_setCells_same _ _ _ _ A;have u:Below w.1.size w (m.drew.setCells w.1.size 0 (Ej f)):=q.drew.trans ((Vp (S:=λk=>k=w.1.size) rfl (Ej f) 0 m.drew).below (λx E=>by omega) (q.size));change wpList _ _ _ _ _ (m.drew.setCells w.1.size 0 (Ej f));generalize m.drew.setCells w.1.size 0 (Ej f)=D at y u ⊢;go_wp2;refine bodyPost_ret (v:=fvs f) ?_ rfl ⟨rfl,u⟩;exact q2w Tryz.results179 rfl (run_loadVar_mid D w.1.size 0 262 (Ej f) _ y underlying262 rfl (by kernel_rfl))
theorem HB.at_ {w:WD}{bp:Nat}{h:Hd}(H:HB w bp h)(k:Nat):w.cell? ⟨bp,Y0 k,none⟩=some (.int .i64 (h.Fj k)):=by
 obtain⟨t,H⟩:=H;rw[cell_of_row _ _ _ _ _ _ H];match k with
 |0=>rfl
 |1=>rfl
 |2=>rfl
 |3=>rfl
 |_+4=>rfl
theorem HB.below {w w':WD}{bp:Nat}{h:Hd}(H:HB w bp h){B:Nat}(hb:Below B w w')(hB:bp<B):HB w' bp h:=by
 obtain⟨t,H⟩:=H;exact⟨t,(hb.block bp hB).trans H⟩
theorem Qb1 (e k:Nat)(f:k<5)(w:WD):(Instr.index 262 (fvs e) (.int .i64 (k:Int))).run prog w=.ok (.agg #[.pointer (some ⟨e,Y0 k,none⟩),.int .i64 (Wj k),.int .i64 (Lp k),.int .i64 (Lr k)]) w:=idx e k f w
def Hd.in_ (h:Hd)(k:Nat):Prop:=Lp k<=h.Fj k/\h.Fj k<=Lr k
def Hd.ok (h:Hd):Bool:=decide ((1<=h.kind/\h.kind<=6)/\(0<=h.level/\h.level<=8)/\(0<=h.addr/\h.addr<=2047)/\(0<=h.count/\h.count<=65535)/\0<=h.gen/\h.gen<=1099511627775)
theorem Hd.Qcv (h:Hd)(H:∀j<5,h.in_ j):h.ok=true:=by
 have h0:=H 0 (by omega);have h1:=H 1 (by omega);have h2:=H 2 (by omega);have e:=H 3 (by omega);have f:=H 4 (by omega);exact AL ⟨h0,h1,h2,e,f⟩
theorem Hd.Qbi (h:Hd)(H:h.ok=true)(j:Nat)(hj:j<5):h.in_ j:=by
 obtain⟨h0,h1,h2,e,f⟩:=AK H;match j,hj with
 |0,_=>exact h0
 |1,_=>exact h1
 |2,_=>exact h2
 |3,_=>exact e
 |4,_=>exact f
theorem q3y (h:Hd)(w:WD) :
  Calls prog 141 #[.agg #[.int .i64 h.kind,.int .i64 h.addr,.int .i64 h.count,.int .i64 h.level,.int .i64 h.gen]] w λe Z=>e=.returned (.bool h.ok)/\Below w.1.size w Z:=by
 go_enter func141,ntmps141
 go_wp2_with (go_at_call 179;refine (q8r w.1.size _).mono ?_;rintro e Q ⟨rfl,u⟩)
 have T:HB Q w.1.size h:=HB.below ⟨_,BE w _⟩ u (by simp);have F:Below w.1.size w Q:=(Qi).trans (u.mono (by simp));have P:=u.size;rw[BH] at P;go_loopw [6] (λi wr=>∃k:Nat,k<=5/\i=.int .i64 (k:Int)/\(∀j<k,h.in_ j)/\HB wr w.1.size h/\Below w.1.size w wr/\w.1.size<wr.1.size) (λi _=>5-(intOf i).toNat)
 case atStart=>exact⟨0,by omega,rfl,λj U=>by omega,T,F,by omega⟩
 case round=>
  obtain⟨k,hk,rfl,B,H,D,y⟩:=hrel;by_cases E:k<5
  ·have J:=Qb1 w.1.size k E;have G:=H.at_ k;have V:(0:Int)<=(k:Int):=by omega
   have I:∀o:Obj,(wr.alloc o).cell? ⟨w.1.size,Y0 k,none⟩=some (.int .i64 (h.Fj k)):=λo=>((AI _ _).alloc (AE _) o).cell y |>.trans G
   go_wp2;generalize p:wr.alloc _=f;have m:Below wr.1.size wr f:=by rw[<-p];exact Qi
   have hn:f.1[wr.1.size]?=some (.cells #[.pointer (some ⟨w.1.size,Y0 k,none⟩),.int .i64 (Wj k),.int .i64 (Lp k),.int .i64 (Lr k)] 261 (0,0)):=by rw[<-p];exact BE wr _
   have X:f.1.size=wr.1.size+1:=by rw[<-p];simp
   clear p J;have q0:f.cell? ⟨wr.1.size,0,none⟩=some (.pointer (some ⟨w.1.size,Y0 k,none⟩)):=by rw[cell_of_row _ _ _ _ _ _ hn];rfl
   have q2:f.cell? ⟨wr.1.size,2,none⟩=some (.int .i64 (Lp k)):=by rw[cell_of_row _ _ _ _ _ _ hn];rfl
   have q3:f.cell? ⟨wr.1.size,3,none⟩=some (.int .i64 (Lr k)):=by rw[cell_of_row _ _ _ _ _ _ hn];rfl
   have qc:f.cell? ⟨w.1.size,Y0 k,none⟩=some (.int .i64 (h.Fj k)):=(m.cell y).trans G;have R:=H.below m y;have q:=D.trans (m.mono D.size);clear D H G I hn m;generalize Y:h.Fj k=x at *;generalize W:Lp k=lo at *;generalize hm:Lr k=hi at *;by_cases h1:x<lo
   ·have A:h.ok=false:=by
     cases O:h.ok
     ·rfl
     ·have:=(h.Qbi O k E).1;omega
    go_quiet (fail)
    go_wp2;go_ret;exact⟨by first|rfl|(rw[A];rfl),Nb q _⟩
   ·have g1:decide (x<lo)=false:=AH h1;by_cases h2:hi<x
    ·have A:h.ok=false:=by
      cases O:h.ok
      ·rfl
      ·have:=(h.Qbi O k E).2;omega
     go_quiet (fail)
     go_wp2;go_ret;exact⟨by first|rfl|(rw[A];rfl),Nb q _⟩
    ·have g2:decide (hi<x)=false:=AH h2;go_quiet (fail)
     go_wp2;refine⟨⟨k+1,by omega,rfl,λj U=>?_,R.below (Nb (AI f.1.size f) _) (by omega),Nb q _,by show w.1.size<f.1.size;omega⟩,by simp[intOf];omega⟩;by_cases K:j=k
     ·rw[K];unfold Hd.in_;rw[Y,W,hm];omega
     ·exact B j (by omega)
  ·have M:k=5:=by omega
   go_wp2;go_ret;exact⟨by rw[h.Qcv (by rw[<-M];exact B)];rfl,D⟩
def hdB (h:Hd):LU:=Qx h.kind 1++(Qx h.level 1++(Qx h.addr 2++(Qx h.count 2++Qx h.gen 5)))
def Ac (h:Hd):Nat->LU
 |0=>[]
 |k+1=>Ac h k++Qx (h.Fj k) (Wj k).toNat
theorem qy0 (h:Hd)(k:Nat)(e:k<=5):(Ac h k).length<=11:=by
 match k,e with
 |0,_=>simp[Ac]
 |1,_=>simp[Ac,J8,Wj]
 |2,_=>simp[Ac,J8,Wj]
 |3,_=>simp[Ac,J8,Wj]
 |4,_=>simp[Ac,J8,Wj]
 |5,_=>simp[Ac,J8,Wj]
theorem qy1 (h:Hd):Ac h 5=hdB h:=by simp[Ac,hdB,Hd.Fj,Wj]
theorem qu3 (k:Nat):1<=Wj k/\Wj k<=5:=by
 match k with
 |0=>decide
 |1=>decide
 |2=>decide
 |3=>decide
 |_+4=>exact⟨by show (1:Int)<=5;omega,by show (5:Int)<=5;omega⟩
theorem qph (h:Hd)(w:WD) :
  Calls prog 142 #[.agg #[.int .i64 h.kind,.int .i64 h.addr,.int .i64 h.count,.int .i64 h.level,.int .i64 h.gen]] w λe T=>∃A n c,e=.returned (.slice A n c)/\Sl T A n c (hdB h)/\Below w.1.size w T:=by
 go_enter func142,ntmps142
 go_wp2_with (go_at_call 179;refine (q8r w.1.size _).mono ?_;rintro e U ⟨rfl,y⟩)
 have X:HB U w.1.size h:=HB.below ⟨_,BE w _⟩ y (by simp);have G:Below w.1.size w U:=(Qi).trans (y.mono (by simp));have P:=y.size;rw[BH] at P;go_loopw [3,7] (λs i wr=>∃(k:Nat) (A:OA) (n c:Nat),k<=5/\s=.slice A n c/\i=.int .i64 (k:Int)/\Sl wr A n c (Ac h k)/\HB wr w.1.size h/\Below w.1.size w wr/\w.1.size<wr.1.size) (λ_ i _=>5-(intOf i).toNat)
 case atStart=>exact⟨0,none,0,0,by omega,rfl,rfl,Il _,X,G,by omega⟩
 case round=>
  obtain⟨k,A,n,c,hk,rfl,rfl,E,H,F,D⟩:=hrel;by_cases Y:k<5
  ·have J:=Qb1 w.1.size k Y;have Q:=H.at_ k;have a1:(0:Int)<=(k:Int):=by omega
   go_wp2;generalize q:wr.alloc _=u;have f:Below wr.1.size wr u:=by rw[<-q];exact Qi
   have hn:u.1[wr.1.size]?=some (.cells #[.pointer (some ⟨w.1.size,Y0 k,none⟩),.int .i64 (Wj k),.int .i64 (Lp k),.int .i64 (Lr k)] 261 (0,0)):=by rw[<-q];exact BE wr _
   have a6:u.1.size=wr.1.size+1:=by rw[<-q];simp
   clear q J;have q0:u.cell? ⟨wr.1.size,0,none⟩=some (.pointer (some ⟨w.1.size,Y0 k,none⟩)):=by rw[cell_of_row _ _ _ _ _ _ hn];rfl
   have q1:u.cell? ⟨wr.1.size,1,none⟩=some (.int .i64 (Wj k)):=by rw[cell_of_row _ _ _ _ _ _ hn];rfl
   have qc:u.cell? ⟨w.1.size,Y0 k,none⟩=some (.int .i64 (h.Fj k)):=(f.cell D).trans Q;have W:=H.below f D;have O:=E.below f;have B:=F.trans (f.mono F.size);have R:=E.len;have a2:=qy0 h k hk;have Z:=qu3 k;have M:Uw (Ac h k) (h.Fj k) (Wj k)=Ac h (k+1):=by unfold Uw;rw[AA (by omega)];rfl
   clear F H Q hn f E;go_still_tail 7,(by kernel_rfl)
   change wpList _ _ _ _ _ u.drew;go_wp2_with (go_at_call 126;refine (q7t A n c (Ac h k) (h.Fj k) (Wj k) _ O.drew (by omega)).mono ?_;rintro e w3 ⟨V,n3,c3,rfl,p,I⟩)
   rw[M] at p;have m:Below u.1.size u w3:=(AI _ _).drew.trans I;exact⟨⟨k+1,V,n3,c3,by omega,rfl,rfl,p.sl,W.below m (by omega),B.trans (m.mono B.size),by have:=m.size;omega⟩,by simp[intOf];omega⟩
  ·have K:k=5:=by omega
   go_wp2;go_ret;rw[K,qy1] at E;exact⟨A,n,c,rfl,E,F⟩
def Gg:Nat->Nat|0=>0|1=>1|2=>2|3=>4|4=>6|_=>11
def rdF (l:LU)(k:Nat):Nat:=Qq ((l.drop (Gg k)).take (Wj k).toNat)
def Qb6 (l:LU):Nat->Hd
 |0=>Hd.zero
 |k+1=>(Qb6 l k).set k (rdF l k)
def Ar (l:LU):Hd:=⟨Qq (l.take 1),Qq ((l.drop 2).take 2),Qq ((l.drop 4).take 2),Qq ((l.drop 1).take 1),Qq ((l.drop 6).take 5)⟩
theorem qy2 (l:LU):Qb6 l 5=Ar l:=rfl
theorem qu4 (k:Nat)(e:k<5):Gg (k+1)=Gg k+(Wj k).toNat:=by
 match k,e with
 |0,_=>rfl
 |1,_=>rfl
 |2,_=>rfl
 |3,_=>rfl
 |4,_=>rfl
theorem qBb (k:Nat)(e:k<=5):Gg k<=11:=by
 match k,e with
 |0,_=>decide
 |1,_=>decide
 |2,_=>decide
 |3,_=>decide
 |4,_=>decide
 |5,_=>decide
theorem HB.Vo {w:WD}{bp:Nat}{h:Hd}(H:HB w bp h)(k:Nat)(x:Int):HB (w.setCell ⟨bp,Y0 k,none⟩ (.int .i64 x)) bp (h.set k x):=by
 obtain⟨t,H⟩:=H;refine⟨t,(heap_setCell_same w bp (Y0 k) _ t (.int .i64 x) H).trans ?_⟩;match k with
 |0=>rfl
 |1=>rfl
 |2=>rfl
 |3=>rfl
 |_+4=>rfl
theorem HB.fz {w:WD}{bp:Nat}{h:Hd}(H:HB w bp h)(k:Nat):w.frozen? ⟨bp,Y0 k,none⟩=false:=by
 obtain⟨t,H⟩:=H;unfold World.frozen?;rw[H];simp
theorem HB.zero (w:WD)(t:TypeId):HB (w.alloc (.cells #[.int .i64 0,.int .i64 0,.int .i64 0,.int .i64 0,.int .i64 0] t)) w.1.size Hd.zero:=⟨t,BE w _⟩
theorem Own.turn {w w':WD}{base n c:Nat}{e:TypeId}{A:OA}{l:LU}(h:Own w base e A n c l)(hk:∀g,base<=g->g<w.1.size->w'.1[g]?=w.1[g]?):Own w' base e A n c l:=by
 refine⟨h.1,?_⟩;rcases h.2 with m|⟨g,cap,f,m,h1,p,r⟩
 ·exact .inl m
 ·exact .inr ⟨g,cap,f,m,h1,(hk g h1 (Array.getElem?_eq_some_iff.1 p).1).trans p,r⟩
def Hd.vs (h:Hd):LV:=[.int .i64 h.kind,.int .i64 h.addr,.int .i64 h.count,.int .i64 h.level,.int .i64 h.gen]
theorem HB.range {w:WD}{bp:Nat}{h:Hd}(H:HB w bp h):w.rangeAt bp 0 h.vs:=λj v e=>by
 obtain⟨t,H⟩:=H;rw[cell_of_row _ _ _ _ _ _ H,AT];simpa [Hd.vs] using e
theorem HB.there {w:WD}{bp:Nat}{h:Hd}(H:HB w bp h):w.there bp 0 5:=λj e=>by
 obtain⟨t,H⟩:=H;refine⟨?_,by unfold World.frozen?;rw[H];simp⟩;rw[cell_of_row _ _ _ _ _ _ H,AT,Array.getElem?_eq_getElem (by simpa using e)];rfl
theorem q5x {f:Array Oper}{e:List Oper}{o:Oper}{a:Act}{w:WD}{Q:Exit->Act->WD->Prop}(q:o.guard=none)(x:Operand)(m:o.op=Op.load 153 x)
  (b:Nat) (u:a.eval x=.pointer (some ⟨b,0,none⟩)) (h:Hd) (H:HB w b h) (p:wpList prog f Q e (a.put o.dst h.v) w):wpList prog f Q (o::e) a w:=
 wpList_load_mid q _ x m b 0 u h.vs _ H.range underlying153 rfl (by kernel_rfl) p
theorem q0v {f:Array Oper}{e:List Oper}{o:Oper}{a:Act}{w:WD}{Q:Exit->Act->WD->Prop}(A:o.guard=none)(x y:Operand)(p:o.op=Op.store 153 x y)
  (b:Nat) (q:a.eval x=.pointer (some ⟨b,0,none⟩)) (h h0:Hd) (D:a.eval y=h.v) (H:HB w b h0) (F:b<w.1.size)
  (u:∀m,m.rangeAt b 0 h.vs->(∀B,B<=b->Below B w m)->Turn (λk=>k=b) w m->wpList prog f Q e (a.put o.dst undef) m):wpList prog f Q (o::e) a w:=
 wpList_store_mid A _ x y p b 0 h.vs.toArray q D H.there (by kernel_rfl) (by simp[Hd.vs,Value.oneCell'])
  (u _ (World.rangeAt_setCells_same _ _ _ _ H.there) (λB E=>(Vp (S:=λk=>k=b) rfl h.vs 0 w).below (λx q=>by omega) (by omega)) (Vp (S:=λk=>k=b) rfl h.vs 0 w))
theorem q54 (A:OA)(c:Nat)(l:LU)(w:WD)(hs:Sl w A 11 c l) :
  Calls prog 160 #[.slice A 11 c] w λe m=>e=.returned (Ar l).v/\Below w.1.size w m:=by
 go_enter func160,ntmps160
 go_wp2_with (go_at_call 179;refine (q8r (w.1.size+1) _).mono ?_;rintro e w2 ⟨rfl,q⟩)
 have a6:=q.size;simp only[BH] at a6 q;have G:Below w.1.size w w2:=(((AI _ w).alloc (AE _) _).alloc (by simp) _).trans (q.mono (by omega));have hR:HB w2 w.1.size Hd.zero:=((HB.zero w _).below (Qi) (by simp)).below q (by omega);have hH:HB w2 (w.1.size+1) Hd.zero:=by
  have:=HB.zero (w.alloc (.cells #[.int .i64 0,.int .i64 0,.int .i64 0,.int .i64 0,.int .i64 0] 153)) 153;rw[BH] at this;exact this.below q (by omega)
 clear q;have hl:=hs.len;go_loopw [0,7] (λs i wr=>∃(k:Nat) (A:OA) (c:Nat),k<=5/\s=.slice A (11-Gg k) c/\i=.int .i64 (k:Int)/\Sl wr A (11-Gg k) c (l.drop (Gg k))/\HB wr w.1.size Hd.zero/\HB wr (w.1.size+1) (Qb6 l k)/\Below w.1.size w wr/\w.1.size+2<=wr.1.size) (λ_ i _=>5-(intOf i).toNat)
 case atStart=>exact⟨0,A,c,by omega,rfl,rfl,by simpa [Gg] using hs.below G,hR,hH,G,by omega⟩
 case round=>
  obtain⟨k,A1,c1,hk,rfl,rfl,K,E,H,O,b0⟩:=hrel;by_cases h5:k<5
  ·have W:=Qb1 (w.1.size+1) k h5;have a8:(0:Int)<=(k:Int):=by omega
   go_wp2;generalize D:wr.alloc _=f;have y:Below wr.1.size wr f:=by rw[<-D];exact Qi
   have hn:f.1[wr.1.size]?=some (.cells #[.pointer (some ⟨w.1.size+1,Y0 k,none⟩),.int .i64 (Wj k),.int .i64 (Lp k),.int .i64 (Lr k)] 261 (0,0)):=by rw[<-D];exact BE wr _
   have b2:f.1.size=wr.1.size+1:=by rw[<-D];simp
   clear D W;have q0:f.cell? ⟨wr.1.size,0,none⟩=some (.pointer (some ⟨w.1.size+1,Y0 k,none⟩)):=by rw[cell_of_row _ _ _ _ _ _ hn];rfl
   have q1:f.cell? ⟨wr.1.size,1,none⟩=some (.int .i64 (Wj k)):=by rw[cell_of_row _ _ _ _ _ _ hn];rfl
   have H1:=H.below y (by omega);have Q:=E.below y (by omega);have a2:=K.below y;have F:=O.trans (y.mono O.size);have Z:=qu4 k h5;have b1:=qBb (k+1) (by omega);have a7:=qu3 k;have V:(l.drop (Gg k)).drop (Wj k).toNat=l.drop (Gg (k+1)):=by rw[List.drop_drop,Z]
   have a1:(Qq ((l.drop (Gg k)).take (Wj k).toNat):Int)=(rdF l k:Int):=rfl;clear O H hn y K E;have HT:=λ(m:WD) (h':Sl m A1 (11-Gg k) c1 (l.drop (Gg k)))=>q5n A1 (11-Gg k) c1 (l.drop (Gg k)) (Wj k) m h' (by omega) (by omega) (by omega) (by omega)
   rw[V,a1] at HT;have R:∀m:WD,Turn (λk=>k=w.1.size+1) f m->m.cell? ⟨wr.1.size,0,none⟩=some (.pointer (some ⟨w.1.size+1,Y0 k,none⟩))/\m.cell? ⟨wr.1.size,1,none⟩=some (.int .i64 (Wj k))/\Turn (λk=>k=w.1.size+1) f m:=λm T=>⟨(AY (T.block wr.1.size (by omega) (by show ¬(wr.1.size=w.1.size+1);omega))).trans q0,(AY (T.block wr.1.size (by omega) (by show ¬(wr.1.size=w.1.size+1);omega))).trans q1,T⟩
   have TD:Turn (λk=>k=w.1.size+1) f f.drew:=Qz (AI _ _).drew;go_region_held3 (λm=>m.cell? ⟨wr.1.size,0,none⟩=some (.pointer (some ⟨w.1.size+1,Y0 k,none⟩))/\m.cell? ⟨wr.1.size,1,none⟩=some (.int .i64 (Wj k))/\Turn (λk=>k=w.1.size+1) f m)
    (first|assumption|exact R _ TD|(go_split_ands;exact R _ (Turn.then ‹Turn (λk=>k=w.1.size+1) f _› (Qz ‹Below (World.heap _).size _ _›)))|(go_split_ands;exact R _ (Turn.then ‹Turn (λk=>k=w.1.size+1) f _› (Gw _ rfl))))
    (first
     |(go_at_call 154;refine (HT _ a2.drew).mono ?_;rintro e M ⟨A3,n3,c3,rfl,B,U⟩;have u:Below f.1.size f M:=(AI _ f).drew.trans U;have P:=H1.below u (by omega);have q5:=P.at_ k;have q6:=P.fz k)
     |fail)
   have Y:n3=11-Gg (k+1):=by have:=B.len;rw[AS,hl] at this;omega
   subst Y;go_wp2;have I:Below (w.1.size+1) M (M.setCell ⟨w.1.size+1,Y0 k,none⟩ (.int .i64 (rdF l k:Int))):=(AI _ M).setCell (p:=⟨w.1.size+1,Y0 k,none⟩) (AE _) _;have b3:=u.size;refine⟨⟨k+1,A3,c3,by omega,rfl,rfl,?_,(Q.below u (by omega)).below I (by omega),P.Vo k _,(F.trans (u.mono F.size)).trans (I.mono (by omega)),by show w.1.size+2<=(M.setCell _ _).1.size;rw[World.size_setCell];omega⟩,by simp[intOf];omega⟩;exact (B.turn λg hg _=>Below.heap_setCell _ _ _ _ (by show g≠w.1.size+1;have h1:f.drew.1.size=f.1.size:=rfl;omega)).sl
  ·have X:k=5:=by omega
   go_wp2_with (first
    |(refine q5x rfl _ rfl _ rfl _ H ?_)
    |(refine q0v rfl _ _ rfl _ rfl _ _ rfl E (by omega) ?_;intro w4 J u _))
   refine bodyPost_ret (v:=(Ar l).v) ?_ rfl ⟨rfl,?_⟩
   ·rw[X,qy2] at J;exact q2w Tryz.results160 rfl (run_loadVar_mid _ w.1.size 0 153 _ _ J underlying153 rfl (by kernel_rfl))
   ·exact O.trans (u _ (AE _))
theorem qe0 {α β:Type}(f:α->β)(L:List α)(o:Nat)(e:List α):splice (L.map f) o (e.map f)=(splice L o e).map f:=by simp[splice]
theorem Own.whole {w:WD}{base n g:Nat}{e:TypeId}{l:LU}(h:Own w base e (some ⟨g,0,none⟩) n n l):base<=g/\w.1[g]?=some (.cells (l.map bv).toArray e (0,0))/\n<=maxLen:=by
 rcases h.2 with⟨m,_⟩|⟨E,cap,p,m,A,B,h1,h2,u,y⟩
 ·injection m with f;cases f
 ·injection m with f D q;injection f with f;injection f with f;subst f;subst q;refine⟨A,?_,h2⟩;rw[<-y,AN (by simp[u])];exact B
theorem Own.of_whole {w:WD}{base n g:Nat}{e:TypeId}{l:LU}(hb:base<=g)(hg:w.1[g]?=some (.cells (l.map bv).toArray e (0,0)))(hl:l.length=n)(hm:n<=maxLen):Own w base e (some ⟨g,0,none⟩) n n l:=
 ⟨by simpa using hl,.inr ⟨g,n,_,rfl,hb,hg,AE _,hm,by simpa using hl,by rw[AN (by simp[hl])]⟩⟩
theorem qbz {P:Program}{t e:TypeId}(T:Ug P t e){w:WD}{D:Array Oper}{u:List Oper}{o:Oper}{a:Act}{Q:Exit->Act->WD->Prop}(H:o.guard=none)(d s:Operand)
  (ho:o.op=.call { callee:=.builtin .copy,args:=#[d,s],argTypes:=#[t,t] })
  (base g n:Nat) (l:LU) (q:Own w base e (some ⟨g,0,none⟩) n n l) (off p y:Nat) (hd:a.eval d=.slice (some ⟨g,off,none⟩) p y)
  (B:OA) (m c:Nat) (M:LU) (hs:a.eval s=.slice B m c) (J:Sl w B m c M) (I:m<=p) (R:off+m<=n)
  (W:∀E,Own E base e (some ⟨g,0,none⟩) n n (splice l off M)->Below base w E->wpList P D Q u (a.put o.dst (goInt m)) E):wpList P D Q (o::u) a w:=by
 obtain⟨i,hi,a1,K,a2⟩:=info_parts T.info;obtain⟨O,Y,hm⟩:=q.whole;have Z:=q.len;have A:=J.len;refine wpList_copy_splice H d s t t ho e T.sl (by rw[hi];simp[K]) _ _ _ _ _ _ hd hs g off (l.map bv) e Y (M.map bv) (by rw[AF,A];exact (Nat.min_eq_left I).symm) (λh0=>?_) (by simp;omega) (qg2 _) base w (AI _ _) O ?_
 ·rw[AF] at h0;obtain⟨U,rfl,_⟩:=J.cell (k:=0) (by omega);refine⟨rfl,U,rfl,λj v hv=>?_⟩;obtain⟨V,F,_,X⟩:=J.2.2.2 j v hv;injection F with F;subst F;exact X
 ·intro E f G;have f:=f.out;rw[qe0] at f;have:=W E (Own.of_whole O f (by rw[length_splice _ _ _ (by omega),Z]) hm) G;rw[AF,A];exact this
theorem qkl {P:Program}{t e:TypeId}(T:Ug P t e){w:WD}{O:Array Oper}{o:Oper}{a:Act}{K:Act->WD->Prop}{Q:Exit->Act->WD->Prop}{E:Prop}(G:o.guard=none)(d s:Operand)
  (ho:o.op=.call { callee:=.builtin .copy,args:=#[d,s],argTypes:=#[t,t] })
  (base g n:Nat) (l:LU) (q:Own w base e (some ⟨g,0,none⟩) n n l) (off p u:Nat) (hd:a.eval d=.slice (some ⟨g,off,none⟩) p u)
  (B:OA) (m c:Nat) (M:LU) (hs:a.eval s=.slice B m c) (I:Sl w B m c M) (H:m<=p) (R:off+m<=n)
  (W:∀A,Own A base e (some ⟨g,0,none⟩) n n (splice l off M)->Below g w A->K (a.put o.dst (goInt m)) A):if Region.wanted o (yielded O a.tmps)=true then Oper.wp P o a w K Q else E:=by
 obtain⟨i,hi,a1,J,a2⟩:=info_parts T.info;obtain⟨X,Z,hm⟩:=q.whole;have hl:=q.len;have y:=I.len;refine step_copy_splice G d s t t ho e T.sl (by rw[hi];simp[J]) _ _ _ _ _ _ hd hs g off (l.map bv) e Z (M.map bv) (by rw[AF,y];exact (Nat.min_eq_left H).symm) (λh0=>?_) (by simp;omega) (qg2 _) g w (AI _ _) (AE _) ?_
 ·rw[AF] at h0;obtain⟨U,rfl,_⟩:=I.cell (k:=0) (by omega);refine⟨rfl,U,rfl,λj v hv=>?_⟩;obtain⟨V,D,_,Y⟩:=I.2.2.2 j v hv;injection D with D;subst D;exact Y
 ·intro A f F;have f:=f.out;rw[qe0] at f;have:=W A (Own.of_whole X f (by rw[length_splice _ _ _ (by omega),hl]) hm) F;rw[AF,y];exact this
def Gh (l:LU):LU:=Qx (more 0 (l.drop 4):Nat) 4
theorem q8s (A:OA)(n c:Nat)(l:LU)(w:WD)(y:Sl w A n c l)(hn:5<=n)(I:Tab w) :
  Calls prog 143 #[.slice A n c] w λe H=>∃B G D,e=.returned (.slice B G D)/\Own H w.1.size 5 B G D (Gh l)/\Below w.1.size w H:=by
 have M:=y.cap;have hm:=y.max;unfold maxLen at hm;have E:=y.drop (k:=4) (by omega);have q:¬c=4:=by omega
 rw[AB q] at E;have u:=qz9 0 (l.drop 4);generalize F:more 0 (l.drop 4)=s at u;have m:Uw [] (s:Int) 4=Gh l:=by unfold Uw Gh;rw[F];simp
 go_enter func143,ntmps143
 go_wp2_with (first
  |(go_at_call 180;refine (qzb _ (n-4) (c-4) (l.drop 4) _ E I).mono ?_;rw[F];rintro e J ⟨rfl,rfl⟩)
  |(go_at_call 126;refine (q7t none 0 0 [] (s:Int) 4 _ (Il _) (by omega)).mono ?_;rw[m];rintro e J ⟨K,O,c3,rfl,f,p⟩))
 go_ret;exact⟨_,_,_,rfl,f,p⟩
def Y9 (l:LU):Bool:=l.all (·==0)
theorem qc0 (A:OA)(n c:Nat)(l:LU)(w:WD)(m:Sl w A n c l) :
  Calls prog 161 #[.slice A n c] w λe J=>e=.returned (.bool (Y9 l))/\w=J:=by
 have O:=m.cap;have hm:=m.max;have E:=m.len;unfold maxLen at hm;go_enter func161,ntmps161
 go_wp2;go_loop [7] (λi=>∃k:Nat,k<=n/\i=.int .i64 (k:Int)/\∀j<k,Vd l j=0) (λi=>n-(intOf i).toNat)
 case atStart=>exact⟨0,AW _,rfl,λj u=>by omega⟩
 case round=>
  obtain⟨k,P,rfl,f⟩:=hrel;by_cases B:k<n
  ·obtain⟨K,rfl,M,q⟩:=m.cell B;have F:=q91 l k;by_cases h0:Vd l k=0
   ·have p:(Vd l k:Int)=0:=by omega
    go_wp2;exact⟨⟨k+1,by omega,by go_num,λj u=>by by_cases y:j=k;(rw[y];exact h0);exact f j (by omega)⟩,by simp[intOf];omega⟩
   ·have p:¬(Vd l k:Int)=0:=by omega
    have D:Y9 l=false:=by
     cases H:Y9 l
     ·rfl
     ·have:=List.all_eq_true.1 H (l.getD k 0) (by rw[AG,AC (by omega)];simp);simp at this;unfold Vd at h0;rw[AG,this] at h0;exact absurd rfl h0
    go_wp2;go_ret;exact⟨by first|rfl|(rw[D];rfl),rfl⟩
  ·have G:k=n:=by omega
   have D:Y9 l=true:=by
    refine List.all_eq_true.2 λx I=>?_
    obtain⟨j,u,rfl⟩:=List.getElem_of_mem I;have:=f j (by omega);unfold Vd at this;rw[AG,AC u] at this;simpa using UInt8.toNat_inj.1 this
   go_wp2;go_ret;exact⟨by first|rfl|(rw[D];rfl),rfl⟩
def Yx (h:Hd)(l:LU):LU:=hdB h++(List.replicate 5 0++(l++List.replicate (236-l.length) 0))
def Zn (h:Hd)(l:LU):LU:=Qx (more 0 (Yx h l):Nat) 4++Yx h l
def Xr (h:Hd)(l:LU):Int:=if h.ok=true then if l.length<=236 then 0 else 7 else 1
def Xw (h:Hd)(l:LU):LU:=if h.ok=true then if l.length<=236 then Zn h l else [] else []
theorem q6p (h:Hd):(hdB h).length=11:=by simp[hdB,J8]
theorem qu5 (h:Hd)(l:LU)(e:l.length<=236):(Yx h l).length=252:=by simp[Yx,q6p];omega
theorem q7h (h:Hd)(l:LU)(e:l.length<=236):(Zn h l).length=256:=by simp[Zn,qu5 h l e,J8]
def zrs (n:Nat):LU:=List.replicate n 0
theorem q7i {P:Program}{t e:TypeId}(w:WD)(T:Ug P t e){m:Array Oper}{f:List Oper}{o:Oper}{a:Act}{Q:Exit->Act->WD->Prop}
  (D:o.guard=none) (l c:Operand) (p:o.op=Op.makeSlice t l c) (u kc:IntKind) (n:Nat) (E:a.eval l=.int u (n:Int)) (B:a.eval c=.int kc (n:Int)) (y:n<=281474976710656)
  (A:∀q,Own q w.1.size e (some ⟨w.1.size,0,none⟩) n n (zrs n)->Below w.1.size w q->wpList P m Q f (a.put o.dst (.slice (some ⟨w.1.size,0,none⟩) n n)) q) :
  wpList P m Q (o::f) a w:=qg3 w T D l c p u kc n E B y A
theorem qe1 {α:Type}(X Y Z C:List α)(k:Nat)(f:X.length=k)(h:Y.length=C.length):splice (X++(Y++Z)) k C=X++(C++Z):=by
 subst f;unfold splice;have e:(X++(Y++Z)).drop (X.length+Y.length)=Z:=by rw[<-AM];exact List.drop_left' (by simp)
 rw[List.take_left' rfl,<-h,e]
theorem Qcp (h:Hd)(l:LU)(p:l.length<=236):splice (splice (zrs 256) 4 (hdB h)) 20 l=List.replicate 4 0++Yx h l:=by
 have e:(zrs 256)=List.replicate 4 0++(List.replicate 11 0++List.replicate 241 0):=by
  unfold zrs;simp only[List.replicate_append_replicate]
 have f:List.replicate 241 (0:UInt8)=List.replicate 5 0++(List.replicate l.length 0++List.replicate (236-l.length) 0):=by
  simp only[List.replicate_append_replicate];congr 1;omega
 rw[e,qe1 _ _ _ _ 4 (by simp) (by simp[q6p]),f];have m:List.replicate 4 (0:UInt8)++(hdB h++(List.replicate 5 0++(List.replicate l.length 0++List.replicate (236-l.length) 0)))=(List.replicate 4 0++(hdB h++List.replicate 5 0))++(List.replicate l.length 0++List.replicate (236-l.length) 0):=by simp
 rw[m,qe1 _ _ _ _ 20 (by simp[q6p]) (by simp)];unfold Yx;simp
theorem Qc9 (h:Hd)(l:LU)(f:l.length<=236):splice (splice (splice (zrs 256) 4 (hdB h)) 20 l) 0 (Gh (splice (splice (zrs 256) 4 (hdB h)) 20 l))=Zn h l:=by
 rw[Qcp h l f];unfold Gh Zn splice;have e:(List.replicate 4 (0:UInt8)++Yx h l).drop 4=Yx h l:=List.drop_left' (by simp);rw[e,J8];simp
theorem qy3 (l:LU):(Gh l).length=4:=by simp[Gh,J8]
theorem q55 (w:WD)(base:Nat)(e:TypeId):Own w base e none 0 0 []:=⟨by simp,.inl ⟨rfl,rfl⟩⟩
theorem q5y (h:Hd)(A:OA)(n c:Nat)(l:LU)(w:WD)(U:Sl w A n c l)(Y:Tab w) :
  Calls prog 77 #[.agg #[.int .i64 h.kind,.int .i64 h.addr,.int .i64 h.count,.int .i64 h.level,.int .i64 h.gen],.slice A n c] w λe q=>
   ∃Z n' c',e=.returned (.tuple #[.slice Z n' c',.int .i64 (Xr h l)])/\Own q w.1.size 5 Z n' c' (Xw h l)/\(Xr h l=0->∃g,Z=some ⟨g,0,none⟩/\n'=256/\c'=256)/\Below w.1.size w q:=by
 have b7:=U.len;have b6:=U.cap;have hm:=U.max;unfold maxLen at hm;by_cases m:h.ok=true
 ·by_cases J:l.length<=236
  ·have P:Xr h l=0:=by unfold Xr;rw[AA m,AA J]
   have M:Xw h l=Zn h l:=by unfold Xw;rw[AA m,AA J]
   rw[P,M];have hn:¬(236:Int)<(n:Int):=by omega
   go_enter func77,ntmps77
   go_wp2_with (first
    |(go_at_call 141;refine (q3y h _).mono ?_;rw[m];rintro e K ⟨rfl,f⟩)
    |(at_make;refine q7i _ Cb rfl _ _ rfl _ _ 256 rfl rfl (by omega) ?_)
    |fail)
   intro u p y;have I:HB u w.1.size h:=(HB.below ⟨_,BE w _⟩ f (by simp)).below y (by have:=f.size;rw[BH] at this;omega);have b5:=f.size;have c6:=y.size;rw[BH] at b5;have F:Below w.1.size w u:=(Qi).trans ((f.mono (by simp)).trans (y.mono (by omega)));have b1:=U.below F;have b3:=Y.below F Y.1;have p:=p.less (show w.1.size<=K.1.size by omega);have L2:=Qcp h l J;have L3:=Qc9 h l J;have hh:=q6p h;have r0:u.cell? ⟨w.1.size,0,none⟩=some (.int .i64 h.kind):=I.at_ 0;have r1:u.cell? ⟨w.1.size,1,none⟩=some (.int .i64 h.addr):=I.at_ 2;have r2:u.cell? ⟨w.1.size,2,none⟩=some (.int .i64 h.count):=I.at_ 3;have r3:u.cell? ⟨w.1.size,3,none⟩=some (.int .i64 h.level):=I.at_ 1;have r4:u.cell? ⟨w.1.size,4,none⟩=some (.int .i64 h.gen):=I.at_ 4;clear f y I;go_wp2_with fail
   have hS:∀q:WD,Below (w.1.size+1) u q->q.cell? ⟨w.1.size,0,none⟩=some (.int .i64 h.kind)/\q.cell? ⟨w.1.size,1,none⟩=some (.int .i64 h.addr)/\q.cell? ⟨w.1.size,2,none⟩=some (.int .i64 h.count)/\
    q.cell? ⟨w.1.size,3,none⟩=some (.int .i64 h.level)/\q.cell? ⟨w.1.size,4,none⟩=some (.int .i64 h.gen)/\Below (w.1.size+1) u q:=λq b=>
    ⟨(b.cell (by show w.1.size<_;omega)).trans r0,(b.cell (by show w.1.size<_;omega)).trans r1,(b.cell (by show w.1.size<_;omega)).trans r2,(b.cell (by show w.1.size<_;omega)).trans r3,(b.cell (by show w.1.size<_;omega)).trans r4,b⟩
   have BD:Below (w.1.size+1) u u.drew:=(AI _ _).drew;go_region_held3 (λq=>q.cell? ⟨w.1.size,0,none⟩=some (.int .i64 h.kind)/\q.cell? ⟨w.1.size,1,none⟩=some (.int .i64 h.addr)/\q.cell? ⟨w.1.size,2,none⟩=some (.int .i64 h.count)/\
    q.cell? ⟨w.1.size,3,none⟩=some (.int .i64 h.level)/\q.cell? ⟨w.1.size,4,none⟩=some (.int .i64 h.gen)/\Below (w.1.size+1) u q)
    (first|assumption|exact hS _ BD|exact hS _ ‹Below (w.1.size+1) u _›)
    (first
     |(go_at_call 142;refine (qph h _).mono ?_;rintro e w4 ⟨A4,n4,c4,rfl,V,Q⟩;have b8:=V.len;have a1:Below (w.1.size+1) u w4:=BD.trans (Q.mono (by show _<=u.1.size;omega));have W:=p.drew.below Q)
     |(refine qkl Cb rfl (.tmp 15) (.tmp 17) rfl w.1.size K.1.size 256 (zrs 256) (by assumption) 4 252 252 rfl _ _ _ (hdB h) rfl (by assumption) (by omega) (by omega) ?_;intro w5 X a7;have a2:Below (w.1.size+1) u w5:=a1.trans (a7.mono (by omega)))
     |fail)
   have O:Below w.1.size w w5:=F.trans (a2.mono (by omega));have b2:=U.below O;clear b1 b3 V W p r0 r1 r2 r3 r4 hS BD;go_wp2_with (first
    |((with_reducible show wpList _ _ _ _ _ _);refine qbz Cb rfl (.tmp 20) (.tmp 21) rfl w.1.size K.1.size 256 _ X 20 236 236 rfl A n c l rfl b2 (by omega) (by omega) ?_;intro w6 B a8;have G:=O.trans a8;have b4:=Y.below G Y.1)
    |(go_at_call 143;refine (q8s _ 256 256 _ _ B.sl (by omega) b4).mono ?_;rintro e w7 ⟨A7,n7,c7,rfl,D,R⟩;have b9:n7<=4:=(by have h7:=D.len;rw[qy3] at h7;omega);have H:=B.below R)
    |((with_reducible show wpList _ _ _ _ _ _);refine qbz Cb rfl (.tmp 23) (.tmp 25) rfl w.1.size K.1.size 256 _ H 0 256 256 rfl A7 n7 c7 _ rfl D.sl (by omega) (by omega) ?_;intro w8 E b0;have a6:=G.trans ((R.mono (Below.size G)).trans b0))
    |fail)
   go_ret2;rw[L3] at E;exact⟨_,_,_,rfl,E,λ_=>⟨_,rfl,rfl,rfl⟩,a6⟩
  ·have P:Xr h l=7:=by unfold Xr;rw[AA m,AB J]
   have M:Xw h l=[]:=by unfold Xw;rw[AA m,AB J]
   rw[P,M];have hn:(236:Int)<(n:Int):=by omega
   go_enter func77,ntmps77
   go_wp2_with (first
    |(go_at_call 141;refine (q3y h _).mono ?_;rw[m];rintro e K ⟨rfl,f⟩))
   go_ret2;exact⟨_,_,_,rfl,q55 _ _ _,λh=>by omega,(Qi).trans (f.mono (by simp))⟩
 ·have T:h.ok=false:=by simpa using m
  have P:Xr h l=1:=by unfold Xr;rw[AB m]
  have M:Xw h l=[]:=by unfold Xw;rw[AB m]
  rw[P,M];go_enter func77,ntmps77
  go_wp2_with (first
   |(go_at_call 141;refine (q3y h _).mono ?_;rw[T];rintro e K ⟨rfl,f⟩))
  go_ret2;exact⟨_,_,_,rfl,q55 _ _ _,λh=>by omega,(Qi).trans (f.mono (by simp))⟩
theorem q0x {q:Func}{p a b:Tmp}{ty:TypeId}{m:Addr}{v:Value}{P:Program}{w:WD}{f:Array Value}(h:q.results=#[.cell p ty,.tmp a,.tmp b])(y:f.getD p undef=.pointer (some m))(u:(loadVar ty m).run P w=.ok v w) :
  (results q f).run P w=.ok (.tuple #[v,f.getD a undef,f.getD b undef]) w:=by
 have e:(results q f).run P w=((asAddr (f.getD p undef)).run P w).andThen λm A=>((loadVar ty m).run P A).andThen λv B=>.ok (.tuple #[v,f.getD a undef,f.getD b undef]) B:=by
  simp only[results,h];simp[Sem.run_bind,Result.andThen]
 rw[e,y];simp[asAddr,u]
theorem q8t {w:WD}{b:Nat}{h:Hd}(e:w.rangeAt b 0 h.vs):(loadVar 153 ⟨b,0,none⟩).run prog w=.ok h.v w:=
 run_loadVar_mid w b 0 153 h.vs _ e underlying153 rfl (by kernel_rfl)
theorem q9l {w:WD}{A:OA}{n c:Nat}{l:LU}(h:Sl w A n c l):(convert 48 9 (.slice A n c)).run prog w=.ok (.string ⟨l.toArray⟩) w:=
 q68 _ _ _ Cb underlying5 underlying9 h
def okB (l:LU):Bool:=decide (l.length=256/\l.take 4=Gh l/\(Ar ((l.drop 4).take 11)).ok=true/\Y9 ((l.drop 15).take 5)=true)
def Yz (l:LU):Hd:=if okB l=true then Ar ((l.drop 4).take 11) else Hd.zero
def U8 (l:LU):LU:=if okB l=true then l.drop 20 else []
def Nv (l:LU):Int:=if okB l=true then 0 else 3
theorem q8u {f:Array Oper}{e:List Oper}{o:Oper}{a:Act}{w:WD}{Q:Exit->Act->WD->Prop}(q:o.guard=none)(x:Operand)(m:o.op=Op.load 153 x)
  (b:Nat) (u:a.eval x=.pointer (some ⟨b,0,none⟩)) (h:Hd) (H:w.rangeAt b 0 h.vs) (p:wpList prog f Q e (a.put o.dst h.v) w):wpList prog f Q (o::e) a w:=
 wpList_load_mid q _ x m b 0 u h.vs _ H underlying153 rfl (by kernel_rfl) p
theorem q4i {w w':WD}{b:Nat}{vs:LV}(h:w.rangeAt b 0 vs){B:Nat}(f:Below B w w')(e:b<B):w'.rangeAt b 0 vs:=λj v m=>(f.cell (p:=⟨b,0+j,none⟩) e).trans (h j v m)
theorem qBc (n:Nat):(zrs n).length=n:=BK
theorem qpi (L C:LU)(h:L.length=C.length):splice L 0 C=C:=by
 unfold splice;rw[List.take_zero,BG,List.drop_of_length_le (by omega),BM]
theorem Ou {w e f:WD}{H:Hd}{o:Obj}(u:f.rangeAt e.1.size 0 H.vs)(m:∀B,B<=e.1.size->Below B (e.alloc o) f)(p:HB e w.1.size Hd.zero)(q:Below w.1.size w e)(y:w.1.size<e.1.size) :
  f.rangeAt e.1.size 0 H.vs/\Below w.1.size w f/\HB f w.1.size Hd.zero/\e.1.size<f.1.size:=by
 have h1:Below e.1.size e f:=((AI _ _).alloc (AE _) o).trans (m _ (AE _));have h2:=(m _ (AE _)).size;rw[BH] at h2;exact⟨u,q.trans (h1.mono (by omega)),p.below h1 y,by omega⟩
theorem cuts {w:WD}{e:Addr}{c:Nat}{l:LU}(f:Sl w (some e) 256 c l):Sl w (some (e.add 15)) 5 (c-15) ((l.drop 15).take 5)/\Sl w (some (e.add 20)) 236 (c-20) (l.drop 20):=by
 have m:=f.cap;have h1:=(f.drop (k:=15) (by omega)).take (k:=5) (by omega);have h2:=f.drop (k:=20) (by omega);rw[AB (by omega)] at h1 h2;exact⟨h1,h2⟩
def q23 (A:OA)(n c:Nat)(l:LU)(w:WD):Prop:=
  Calls prog 106 #[.slice A n c] w λe q=>
   ∃f p m,e=.returned (.tuple #[(Yz l).v,.slice f p m,.int .i64 (Nv l)])/\Own q w.1.size 5 f p m (U8 l)/\Below w.1.size w q
theorem qkm {l:LU}(h:okB l=false):Yz l=Hd.zero/\U8 l=[]/\Nv l=3:=by
 unfold Yz U8 Nv;rw[h];exact⟨rfl,rfl,rfl⟩
theorem q7j {l:LU}(h:okB l=true):Yz l=Ar ((l.drop 4).take 11)/\U8 l=l.drop 20/\Nv l=0:=by
 unfold Yz U8 Nv;rw[h];exact⟨rfl,rfl,rfl⟩
theorem qBd (ad:Addr)(c:Nat)(l:LU)(w:WD)(hs:Sl w (some ad) 256 c l)(ht:Tab w)(b5:l.take 4=Gh l):q23 (some ad) 256 c l w:=by
 unfold q23;have Z:=hs.len;have d0:=hs.cap;have hm:=hs.max;unfold maxLen at hm;have HZ:=HB.zero w 153;have I:Below w.1.size w (w.alloc (.cells #[.int .i64 0,.int .i64 0,.int .i64 0,.int .i64 0,.int .i64 0] 153)):=Qi;have b7:w.1.size<(w.alloc (.cells #[.int .i64 0,.int .i64 0,.int .i64 0,.int .i64 0,.int .i64 0] 153)).1.size:=by simp
 obtain⟨H,hH⟩:∃H,Ar ((l.drop 4).take 11)=H:=⟨_,rfl⟩;have b0:=congrArg (λx:LU=>(⟨x.toArray⟩:ByteArray)) b5;obtain⟨S1,hS⟩:∃S1,(⟨(Gh l).toArray⟩:ByteArray)=S1:=⟨_,rfl⟩;have b1:(⟨(l.take 4).toArray⟩:ByteArray)=S1:=b0.trans hS;clear b0;go_enter func106,ntmps106
 go_wp2;generalize (w.alloc (.cells #[.int .i64 0,.int .i64 0,.int .i64 0,.int .i64 0,.int .i64 0] 153))=w1 at HZ I b7 ⊢;have Q:=hs.below I;have c9:=ht.below I ht.1;have k1:=q9l (Q.take (k:=4) (by omega)).drew;rw[b1] at k1;go_region_with (first
  |(go_at_call 143;refine (q8s _ 256 c l _ Q.drew (by omega) c9).mono ?_;rintro e w3 ⟨A3,n3,c3,rfl,a1,b3⟩;have A:Below w1.1.size w1 w3:=Below.trans (AI _ w1).drew b3;have k2:=q9l ((Q.below A).take (k:=4) (by omega));have k3:=q9l a1.sl;rw[b1] at k2;rw[hS] at k3)
  |fail)
 all_goals
  have a2:=HZ.below A b7;have d3:=A.size;have c7:=Q.below A;have D:=I.trans (A.mono I.size);have X:=(c7.drop (k:=4) (by omega)).take (k:=11) (by omega);rw[AB (show ¬c=4 by omega)] at X;clear k1 k2 k3 a1 b3 Q HZ
  cases M:H.ok
  ·have a6:okB l=false:=AH (λh=>by have:=h.2.2.1;rw[hH,M] at this;cases this);go_wp2_with (first
    |(go_at_call 160;refine (q54 _ (c-4) _ _ X).mono ?_;rw[hH];rintro e W ⟨rfl,p⟩;have E:=a2.below p (by omega);have b8:=p.size)
    |(refine q0v rfl (.tmp 5) (.tmp 22) rfl W.1.size rfl H _ rfl (HB.zero W _) (by simp) ?_;intro w6 O J _;obtain⟨m,y,F,U⟩:=Ou O J E (D.trans (p.mono D.size)) (by omega))
    |(refine q8u rfl (.tmp 5) rfl W.1.size rfl H (by first|exact m|assumption) ?_)
    |(go_at_call 141;refine (q3y H _).mono ?_;rw[M];rintro e w7 ⟨rfl,f⟩;have G:=F.below f (by omega);have q:=y.trans (f.mono y.size);have a7:=q4i m f U;have b9:=f.size;have T:=hs.below q;obtain⟨B,R⟩:=cuts T)
    |(refine q0v rfl (.tmp 2) (.tmp 32) rfl w.1.size rfl Hd.zero _ rfl G (by omega) ?_;intro wz P K Tz)
    |fail)
   refine bodyPost_ret (q0x Tryz.results106 rfl (q8t P)) rfl ?_;obtain⟨h1,h2,h3⟩:=qkm (l:=l) a6;rw[h1,h2,h3];exact⟨_,_,_,rfl,q55 _ _ _,q.trans (K _ (AE _))⟩
  ·cases Y:Y9 ((l.drop 15).take 5)
   ·have a6:okB l=false:=AH (λh=>by have:=h.2.2.2;rw[Y] at this;cases this);go_wp2_with (first
     |(go_at_call 160;refine (q54 _ (c-4) _ _ X).mono ?_;rw[hH];rintro e W ⟨rfl,p⟩;have E:=a2.below p (by omega);have b8:=p.size)
     |(refine q0v rfl (.tmp 5) (.tmp 22) rfl W.1.size rfl H _ rfl (HB.zero W _) (by simp) ?_;intro w6 O J _;obtain⟨m,y,F,U⟩:=Ou O J E (D.trans (p.mono D.size)) (by omega))
     |(refine q8u rfl (.tmp 5) rfl W.1.size rfl H (by first|exact m|assumption) ?_)
     |(go_at_call 141;refine (q3y H _).mono ?_;rw[M];rintro e w7 ⟨rfl,f⟩;have G:=F.below f (by omega);have q:=y.trans (f.mono y.size);have a7:=q4i m f U;have b9:=f.size;have T:=hs.below q;obtain⟨B,R⟩:=cuts T)
     |(go_at_call 161;refine (qc0 _ 5 (c-15) _ w7 B).mono ?_;rw[Y];rintro e w8 ⟨rfl,rfl⟩)
     |(refine q0v rfl (.tmp 2) (.tmp 32) rfl w.1.size rfl Hd.zero _ rfl G (by omega) ?_;intro wz P K Tz)
     |fail)
    refine bodyPost_ret (q0x Tryz.results106 rfl (q8t P)) rfl ?_;obtain⟨h1,h2,h3⟩:=qkm (l:=l) a6;rw[h1,h2,h3];exact⟨_,_,_,rfl,q55 _ _ _,q.trans (K _ (AE _))⟩
   ·have b6:okB l=true:=AL ⟨Z,b5,by rw[hH];exact M,Y⟩;go_wp2_with (first
     |(go_at_call 160;refine (q54 _ (c-4) _ _ X).mono ?_;rw[hH];rintro e W ⟨rfl,p⟩;have E:=a2.below p (by omega);have b8:=p.size)
     |(refine q0v rfl (.tmp 5) (.tmp 22) rfl W.1.size rfl H _ rfl (HB.zero W _) (by simp) ?_;intro w6 O J _;obtain⟨m,y,F,U⟩:=Ou O J E (D.trans (p.mono D.size)) (by omega))
     |(refine q8u rfl (.tmp 5) rfl W.1.size rfl H (by first|exact m|assumption) ?_)
     |(go_at_call 141;refine (q3y H _).mono ?_;rw[M];rintro e w7 ⟨rfl,f⟩;have G:=F.below f (by omega);have q:=y.trans (f.mono y.size);have a7:=q4i m f U;have b9:=f.size;have T:=hs.below q;obtain⟨B,R⟩:=cuts T)
     |(go_at_call 161;refine (qc0 _ 5 (c-15) _ w7 B).mono ?_;rw[Y];rintro e w8 ⟨rfl,rfl⟩)
     |(at_make;refine q7i _ Cb rfl _ _ rfl _ _ 236 rfl rfl (by omega) ?_;intro w9 c6 b4;have c8:=Sl.below R b4)
     |((with_reducible show wpList _ _ _ _ _ _);refine qbz Cb rfl (.tmp 34) (.tmp 36) rfl w7.1.size w7.1.size 236 _ c6 0 236 236 rfl _ 236 (c-20) _ rfl c8 (by omega) (by omega) ?_;intro d4 V b2;have u:=b4.trans b2;have a8:=G.below u (by omega);have d1:=q4i a7 u (by omega);have d2:=u.size)
     |(refine q0v rfl (.tmp 2) (.tmp 38) rfl w.1.size rfl H _ rfl a8 (by omega) ?_;intro wz P K Tz)
     |fail)
    refine bodyPost_ret (q0x Tryz.results106 rfl (q8t P)) rfl ?_;obtain⟨h1,h2,h3⟩:=q7j (l:=l) b6;rw[h1,h2,h3,hH];rw[qpi _ _ (by rw[qBc,AS,Z])] at V;exact⟨_,_,_,rfl,(V.turn λg hg hl=>Tz.block g hl (by show ¬g=w.1.size;omega)).less q.size,q.trans ((u.mono q.size).trans (K _ (AE _)))⟩
