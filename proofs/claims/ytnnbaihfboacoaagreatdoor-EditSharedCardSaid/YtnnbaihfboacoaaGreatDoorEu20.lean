/- Superblocks: the code's Read -/
import Derived.Test.YtnnbaihfboacoaaGreatDoorEu14
import Derived.Test.YtnnbaihfboacoaaGreatDoorEu17
import Derived.Test.YtnnbaihfboacoaaGreatDoorEu19
import Derived.Laws.Cover3
namespace Go.Proofs.YtnnbaihfboacoaaGreatDoor
open Go Go.RowKit Go.Proofs
set_option maxHeartbeats 4000000
set_option maxRecDepth 100000
section
def rdL (l:List UInt8):Sp:=rdS (Yq l).gen (Un l)
def Xm (l:List UInt8)(slot:Int):Bool:=okB l&&(Xq (rdL l) slot&&decide (l=swB (rdL l) slot))
def Gf (l:List UInt8)(slot:Int):Sp:=if Xm l slot=true then rdL l else Sp.zero
def srE (l:List UInt8)(slot:Int):Int:=if Xm l slot=true then 0 else 3
theorem qhk {l:List UInt8}{slot:Int}(h:Xm l slot=false):Gf l slot=Sp.zero/\srE l slot=3:=by
 unfold Gf srE;rw[h];exact⟨rfl,rfl⟩
theorem qja {l:List UInt8}{slot:Int}(h:Xm l slot=true):Gf l slot=rdL l/\srE l slot=0:=by
 unfold Gf srE;rw[if_pos h,if_pos h];exact⟨rfl,rfl⟩
def ldX (p:Value):Sem Value:=Instr.loadAt 163 p
theorem qjb (p:Value):Instr.loadAt 163 p=ldX p:=rfl
theorem q9p {P:Program}(w:World)(a:Addr)(ty:TypeId)(b:List Value)(d:TypeDesc)(p:∀(j:Nat) v,b[j]?=some v->w.cell? (a.add j)=some v)
  (A:P.underlying ty=some d) (hd:d.isRow=true) (m:(P.info? ty).map (·.size)=some b.length) :
  (loadVar ty a).run P w=.ok (.agg b.toArray) w:=by
 have u:(loadCells a b.length).run P w=.ok b.toArray w:=run_loadCells_list (P:=P) w a b p
 cases f:P.info? ty with
 |none=>simp[f] at m
 |some i=>
  have y:i.size=b.length:=by simpa [f] using m
  have e:(isAgg ty).run P w=.ok true w:=by
   unfold isAgg;rw[Sem.run_bind,run_underlying A w]
   cases d<;>simp_all
  simp[loadVar,Sem.run_bind,e,sizeOf,typeInfo,f,y,u]
theorem qno {w:World}{b:Addr}{c:Nat}{l:List UInt8}(h:Sl w (some b) 256 c l):(ldX (.pointer (some b))).run Tryz.prog w=.ok (.agg (l.map bv).toArray) w:=by
 have m:=h.len;unfold ldX;simp only[Instr.loadAt,Instr.sureAddr,Sem.run_bind,Sem.run_pure,Result.andThen_ok,q9p w b 163 (l.map bv) _ (λj v p=>by
  obtain⟨d,e,_,f⟩:=h.2.2.2 j v p;injection e with e;subst e;exact f) Tryz.underlying163 rfl (by rw[List.length_map,m];kernel_rfl)]
theorem qnp (b:Option Addr)(c:Nat)(w:World):(Instr.arrayAt 163 (.slice b 256 c)).run Tryz.prog w=.ok (.pointer b) w:=
 run_arrayAt w 163 _ 256 b 256 c Tryz.underlying163 (Nat.le_refl _)
theorem qnq (b:BinOp)(x y:Operand)(xs ys:Array Value)(w:World):(eqGuard b 163 x y (.agg xs) (.agg ys)).run Tryz.prog w=.ok () w:=
 run_eqGuard_agg w b 163 x y xs ys (by kernel_rfl)
theorem qxh {l:List UInt8}(h:okB l=true):l.length=256:=(of_decide_eq_true h).1
def qf9 (A:Option Addr)(n c:Nat)(l:List UInt8)(slot:Int)(w:World):Prop:=
  Calls Tryz.prog 96 #[.slice A n c,.int .i64 slot] w λe b=>e=.returned (.tuple #[.agg (Gf l slot).vs.toArray,.int .i64 (srE l slot)])/\Below w.1.size w b
attribute [local go_sem ↓] q1n q7c q3f q9e qjb
theorem qfa (A:Option Addr)(n c:Nat)(l:List UInt8)(slot:Int)(w:World)(hs:Sl w A n c l)(ht:Tab w):qf9 A n c l slot w:=by
 unfold qf9;have d2:=qbf true;have d3:=ql7;have Z1:=SB.new w Sp.zero 98;have Y:Below w.1.size w (w.alloc (.cells Sp.zero.vs.toArray 98)):=Qm;go_enter Tryz.func96,Tryz.ntmps96
 go_wp2_with fail
 generalize w.alloc (.cells Sp.zero.vs.toArray 98)=w1 at Z1 Y ⊢;refine (q5v A n c l w1 (hs.below Y) (ht.below Y ht.1)).mono ?_;rintro e F ⟨A3,n3,c3,rfl,B,K⟩;have Z3:=Z1.below K Z1.lt;have B3:=Y.trans (K.mono Y.size);have HZ:=HB.zero F 150;have T:F.1.size<(F.alloc (.cells #[.int .i64 0,.int .i64 0,.int .i64 0,.int .i64 0,.int .i64 0] 150)).1.size:=by simp
 have b3:Below F.1.size F (F.alloc (.cells #[.int .i64 0,.int .i64 0,.int .i64 0,.int .i64 0,.int .i64 0] 150)):=Qm;obtain⟨o,Z⟩:∃o,okB l=o:=⟨_,rfl⟩
 cases o
 ·obtain⟨U,W⟩:=qhk (l:=l) (slot:=slot) (by unfold Xm;rw[Z];rfl);have hE:=(qik Z).2.2;rw[hE];go_wp2_with (first
   |(refine Pz rfl _ _ rfl F.1.size rfl (Yq l) _ rfl HZ T ?_;intro w4 O f T4;have B4:=B3.trans ((b3.trans (f _ (Nat.le_refl _))).mono B3.size);have Z4:=Z3.below (b3.trans (f _ (Nat.le_refl _))) Z3.lt)
   |(refine Ec rfl _ _ rfl w.1.size rfl Sp.zero Sp.zero rfl Z4 ?_;intro w9 G d T9)
   |fail)
  refine bodyPost_ret (q23 Tryz.results96 rfl (q4f G)) rfl ?_;rw[U,W];exact⟨rfl,B4.trans (d _ (Nat.le_refl _))⟩
 ·have hE:=(q78 Z).2.2;rw[hE];have hB:Un l=l.drop 20:=(q78 Z).2.1;have m:=qxh Z;go_wp2_with (first
   |(refine Pz rfl _ _ rfl F.1.size rfl (Yq l) _ rfl HZ T ?_;intro w4 O f T4;have p:=b3.trans (f _ (Nat.le_refl _));have B4:=B3.trans (p.mono B3.size);have Z4:=Z3.below p Z3.lt;have g4:=O 4 _ rfl)
   |fail)
  have D:=B.sl.below p;clear O f T4 HZ T b3 B Z3 B3 K Z1 Y p;have Q:Sl w4 A3 n3 c3 (Un l):=D;have b4:n3=236:=by have:=Q.len;rw[hB,List.length_drop,m] at this;omega
  have b5:148<=n3:=by omega
  have b7:n3<=1000:=by omega
  clear b4 D hB;refine (qew (Yq l).gen A3 n3 c3 (Un l) w4 Q b5 b7).mono ?_;rintro e w5 ⟨rfl,M⟩;have Z5:=Z4.below M Z4.lt;have B5:=B4.trans (M.mono B4.size);have hf:=qup (Yq l).gen (Un l);have b0:rdS (Yq l).gen (Un l)=rdL l:=rfl;rw[b0] at hf ⊢;obtain⟨R,hR⟩:∃R,rdL l=R:=⟨_,rfl⟩;rw[hR] at hf ⊢;clear b0 M Q Z4 B4 g4;have H6:=SB.new w5 Sp.zero 98;have b6:Below w5.1.size w5 (w5.alloc (.cells Sp.zero.vs.toArray 98)):=Qm;go_wp2_with (first
   |(refine Ec rfl _ _ rfl w5.1.size rfl R Sp.zero rfl H6 ?_;intro w6 H7 b T7;have H:=b6.trans (b _ (Nat.le_refl _));have B6:=B5.trans (H.mono B5.size);have Z6:=Z5.below H Z5.lt;have a6:=H7.ld)
   |fail)
  clear H6 b6 b T7 H;refine (q8e R slot hf w6 (ht.below B6 ht.1)).mono ?_;rintro e w7 ⟨A7,n7,c7,rfl,E,a2,b⟩;have Z7:=Z6.below b Z6.lt;have B7:=B6.trans (b.mono B6.size);have H8:=H7.below b H7.lt;obtain⟨k,hk⟩:∃k,Xq R slot=k:=⟨_,rfl⟩;have a7:=H8.ld;clear a6 Z6 H7 b B6
  cases k
  ·obtain⟨h1,h2⟩:=qx7 hk;obtain⟨U,W⟩:=qhk (l:=l) (slot:=slot) (by unfold Xm;rw[hR,hk,Bool.false_and,Bool.and_false]);rw[h1];go_wp2_with fail
   refine Yc (by kernel_rfl) (by kernel_rfl) ?_;repeat (go_big_quiet_step (fail))
   refine wpQuiet_nil ?_;rintro _ ⟨u,rfl⟩;have Z9:=Z7.below u.ok Z7.lt;have B9:=B7.trans (u.ok.mono B7.size);go_wp2_with (first
    |(refine Ec rfl _ _ rfl w.1.size rfl Sp.zero Sp.zero rfl Z9 ?_;intro w9 G d T9)
    |fail)
   refine bodyPost_ret (q23 Tryz.results96 rfl (q4f G)) rfl ?_;rw[U,W];exact⟨rfl,B9.trans (d _ (Nat.le_refl _))⟩
  ·obtain⟨h1,h2,_,_⟩:=ql9 hk;obtain⟨g7,rfl,rfl,rfl⟩:=a2 hk;rw[h1];have P:=hs.below B7;have b9:n=256:=by have:=P.len;omega
   subst b9;obtain⟨ad,rfl,_⟩:=hs.cell (k:=0) (by omega);have y:=E.sl;obtain⟨X,hX⟩:∃X,swB R slot=X:=⟨_,rfl⟩;rw[hX] at y;have a1:=y.len;obtain⟨r,hr⟩:∃r,decide (l=X)=r:=⟨_,rfl⟩;have c6:∀u:Grown w7,(ldX (.pointer (some ad))).run Tryz.prog u.to=.ok (.agg (l.map bv).toArray) u.to:=λu=>qno (P.below u.ok)
   have c8:∀u:Grown w7,(ldX (.pointer (some ⟨g7,0,none⟩))).run Tryz.prog u.to=.ok (.agg (X.map bv).toArray) u.to:=λu=>qno (y.below u.ok)
   have d0:=qnp (some ad) c;have d1:=qnp (some ⟨g7,0,none⟩) 256;have b8:=qre l X m a1 r hr;have d4:=qnq;have a8:=Lib.hid (show Xm l slot=r by unfold Xm;rw[Z,hR,hk,hX,hr];rfl);obtain⟨LB,I⟩:∃LB,(l.map bv).toArray=LB:=⟨_,rfl⟩;obtain⟨XB,J⟩:∃XB,(X.map bv).toArray=XB:=⟨_,rfl⟩;rw[I] at c6;rw[J] at c8;rw[I,J] at b8;clear m a1 I J hX hr y E a2 P h1 h2
   cases r;all_goals
    go_wp2_with fail
    refine Yc (by kernel_rfl) (by kernel_rfl) ?_;repeat (go_big_quiet_step (fail))
    refine wpQuiet_nil ?_;rintro _ ⟨u,rfl⟩;have Z9:=Z7.below u.ok Z7.lt;have B9:=B7.trans (u.ok.mono B7.size);have b2:=H8.below u.ok H8.lt;have c9:=b2.ld;clear a7
   ·obtain⟨U,W⟩:=qhk a8.out;go_wp2_with (first
     |(refine Ec rfl _ _ rfl w.1.size rfl Sp.zero Sp.zero rfl Z9 ?_;intro w9 G d T9)
     |fail)
    refine bodyPost_ret (q23 Tryz.results96 rfl (q4f G)) rfl ?_;rw[U,W];exact⟨rfl,B9.trans (d _ (Nat.le_refl _))⟩
   ·obtain⟨U,W⟩:=qja a8.out;go_wp2_with (first
     |(refine Ec rfl _ _ rfl w.1.size rfl R Sp.zero rfl Z9 ?_;intro w9 G d T9)
     |fail)
    refine bodyPost_ret (q23 Tryz.results96 rfl (q4f G)) rfl ?_;rw[U,W,hR];exact⟨rfl,B9.trans (d _ (Nat.le_refl _))⟩
end
def rfV (l:List UInt8):Vl:=⟨rdN l,decide (gN l 11 1=1),(gN l 12 2:Int),(gN l 14 4:Int)⟩
def Qcq (g:Int)(l:List UInt8)(k:Nat):Sp:=⟨g,(gN l 0 2:Int),(gN l 2 2:Int),(List.range 8).map (λi=>if i<k then rfV (l.drop (4+18*i)) else Vl.zero),by simp⟩
def rfL (l:List UInt8):Sp:=Qcq (Yq l).gen (Un l) 8
def Vl.fits (v:Vl):Prop:=v.name.size<=10/\(0<=v.root/\v.root<65536)/\(0<=v.next/\v.next<4294967296)
theorem qby (X Y Z:List UInt8)(p m:Nat)(b:X.length=p)(d:Y.length=m):gN (X++(Y++Z)) p m=Q8 Y:=by
 unfold gN;rw[List.drop_left' b,List.take_left' d]
theorem qnr (v:Vl)(e:v.fits)(Z:List UInt8):gN (Xr v++Z) 0 1=v.name.size/\rdN (Xr v++Z)=v.name/\(gN (Xr v++Z) 11 1:Int)=Nz v.ro/\(gN (Xr v++Z) 12 2:Int)=v.root/\(gN (Xr v++Z) 14 4:Int)=v.next:=by
 obtain⟨h1,⟨h2,f⟩,d,m⟩:=e;have b:gN (Xr v++Z) 0 1=v.name.size:=by
  unfold Xr;have:=qby [] (Zc (v.name.size:Int) 1) (Aq v.name++(Zc (Nz v.ro) 1++(Zc v.root 2++Zc v.next 4))++Z) 0 1 rfl (Yl _ _);rw[List.nil_append] at this;rw[List.append_assoc,this];have:=Ri (v.name.size:Int) 1 (by omega) (by omega);omega
 have hd:Nz v.ro=0\/Nz v.ro=1:=by unfold Nz;split<;>simp
 refine⟨b,?_,?_,?_,?_⟩
 ·unfold rdN;rw[b,Nat.min_eq_left h1];have:(Xr v++Z).drop 1=Aq v.name++((Zc (Nz v.ro) 1++(Zc v.root 2++Zc v.next 4))++Z):=by
   unfold Xr;rw[List.append_assoc,List.drop_left' (Yl _ _),List.append_assoc]
  rw[this];unfold Aq;rw[List.append_assoc,List.take_left' (by simp)]
 ·have:Xr v++Z=(Zc (v.name.size:Int) 1++Aq v.name)++(Zc (Nz v.ro) 1++((Zc v.root 2++Zc v.next 4)++Z)):=by unfold Xr;simp only[List.append_assoc]
  rw[this,qby _ _ _ 11 1 (by simp[Yl,q9d _ h1]) (Yl _ _)];exact Ri _ 1 (by omega) (by omega)
 ·have:Xr v++Z=(Zc (v.name.size:Int) 1++(Aq v.name++Zc (Nz v.ro) 1))++(Zc v.root 2++(Zc v.next 4++Z)):=by unfold Xr;simp only[List.append_assoc]
  rw[this,qby _ _ _ 12 2 (by simp[Yl,q9d _ h1]) (Yl _ _)];exact Ri _ 2 h2 (by omega)
 ·have:Xr v++Z=(Zc (v.name.size:Int) 1++(Aq v.name++(Zc (Nz v.ro) 1++Zc v.root 2)))++(Zc v.next 4++Z):=by unfold Xr;simp only[List.append_assoc]
  rw[this,qby _ _ _ 14 4 (by simp[Yl,q9d _ h1]) (Yl _ _)];exact Ri _ 4 d (by omega)
theorem qsg (v:Vl)(u:v.fits)(Z:List UInt8):Iw (Xr v++Z)=v/\rfV (Xr v++Z)=v/\gN (Xr v++Z) 0 1<=10:=by
 obtain⟨y,e,b,f,m⟩:=qnr v u Z;have d:decide (gN (Xr v++Z) 11 1≠0)=v.ro/\decide (gN (Xr v++Z) 11 1=1)=v.ro:=by
  unfold Nz at b
  cases p:v.ro
  ·rw[p] at b;simp at b;rw[b];decide
  ·rw[p] at b;simp at b;have:gN (Xr v++Z) 11 1=1:=by omega
   rw[this];decide
 refine⟨?_,?_,by rw[y];exact u.1⟩
 ·unfold Iw;rw[e,f,m,d.1]
 ·unfold rfV;rw[e,f,m,d.2]
theorem qsh {S:Sp}(h:S.may=true):∀j,j<8->(S.at_ j).fits:=λj b=>by
 have f:=(q12 h).1;rcases qh9 ((q12 h).2 j b) with e|⟨h1,h2,d⟩
 ·rw[e];exact⟨by show 0<=10;omega,⟨by show (0:Int)<=0;omega,by show (0:Int)<65536;omega⟩,by show (0:Int)<=0;omega,by show (0:Int)<4294967296;omega⟩
 ·exact⟨(ql8 h1).2,⟨by omega,by omega⟩,by omega,by omega⟩
theorem qvt (S:Sp)(hn:∀j,j<8->(S.at_ j).name.size<=10)(Z:List UInt8){k:Nat}(b:k<8):∃R,(Jg S++Z).drop (4+18*k)=Xr (S.at_ k)++R:=by
 have d:k<S.Jk.length:=by rw[S.len];exact b
 have e:Jg S=Zz S k++(Xr (S.at_ k)++(S.Jk.drop (k+1)).flatMap Xr):=by
  unfold Jg Zz;have h:=S.get b;rw[List.getElem?_eq_getElem d] at h;have h2:S.Jk.take 8=S.Jk.take k++(S.at_ k::S.Jk.drop (k+1)):=by
   rw[<-Option.some.inj h,List.getElem_cons_drop,List.take_append_drop,List.take_of_length_le (by rw[S.len];omega)]
  rw[h2,List.flatMap_append,List.flatMap_cons];simp only[List.append_assoc]
 rw[e,List.append_assoc,List.drop_left' (Xa S k (by omega) hn),List.append_assoc];exact⟨_,rfl⟩
theorem qns (S:Sp)(h:S.may=true)(Z:List UInt8):(gN (Jg S++Z) 0 2:Int)=S.Qb/\(gN (Jg S++Z) 2 2:Int)=S.log:=by
 have d:=(q12 h).1;have e:Jg S++Z=[]++(Zc S.Qb 2++(Zc S.log 2++((S.Jk.take 8).flatMap Xr++Z))):=by unfold Jg Zz;simp only[List.append_assoc,List.nil_append]
 have b:Jg S++Z=Zc S.Qb 2++(Zc S.log 2++((S.Jk.take 8).flatMap Xr++Z)):=by rw[e,List.nil_append]
 constructor
 ·rw[e,qby _ _ _ 0 2 rfl (Yl _ _)];exact Ri _ 2 (by omega) (by omega)
 ·rw[b,qby _ _ _ 2 2 (Yl _ _) (Yl _ _)];exact Ri _ 2 (by omega) (by omega)
theorem qvu {S:Sp}{slot:Int}(h:Xq S slot=true):okB (swB S slot)=true/\Yq (swB S slot)=Dj S slot/\rdL (swB S slot)=S/\rfL (swB S slot)=S/\(∀k,k<8->gN ((Un (swB S slot)).drop (4+18*k)) 0 1<=10):=by
 have hm:S.may=true:=by unfold Xq at h;rw[Bool.and_eq_true] at h;exact h.1
 have b:=qrp h;have E:(Jg S).length<=236:=by rw[q7e hm];omega
 obtain⟨A,m,G⟩:=q7a (Dj S slot) (Jg S) b E;have F:=(ql9 h).2.1;rw[F];have hn:=q7d hm;have p:=qsh hm;obtain⟨B,D⟩:=qns S hm (List.replicate (236-(Jg S).length) 0);have y:∀k,k<8->Iw ((Un (Zr (Dj S slot) (Jg S))).drop (4+18*k))=S.at_ k/\rfV ((Un (Zr (Dj S slot) (Jg S))).drop (4+18*k))=S.at_ k/\gN ((Un (Zr (Dj S slot) (Jg S))).drop (4+18*k)) 0 1<=10:=λk b=>by
  rw[m];obtain⟨R,e⟩:=qvt S hn (List.replicate (236-(Jg S).length) 0) b;rw[e];exact qsg _ (p k b) R
 have d:∀f:List UInt8->Vl,(∀k,k<8->f ((Un (Zr (Dj S slot) (Jg S))).drop (4+18*k))=S.at_ k)->(List.range 8).map (λi=>if i<8 then f ((Un (Zr (Dj S slot) (Jg S))).drop (4+18*i)) else Vl.zero)=S.Jk:=λf p=>by
  refine List.ext_getElem (by simp[S.len]) λi h1 h2=>?_
  have u:i<8:=by simpa using h1
  simp only[List.getElem_map,List.getElem_range];rw[if_pos u,p i u];have:=S.get u;rw[List.getElem?_eq_getElem h2] at this;exact (Option.some.inj this).symm
 refine⟨qir _ _ b E,A,?_,?_,λk b=>(y k b).2.2⟩
 ·refine Sp.ext' ?_ ?_ ?_ ?_
  ·show (Yq (Zr (Dj S slot) (Jg S))).gen=S.gen;rw[A];rfl
  ·show (gN (Un (Zr (Dj S slot) (Jg S))) 0 2:Int)=S.Qb;rw[m];exact B
  ·show (gN (Un (Zr (Dj S slot) (Jg S))) 2 2:Int)=S.log;rw[m];exact D
  ·exact d Iw λk b=>(y k b).1
 ·refine Sp.ext' ?_ ?_ ?_ ?_
  ·show (Yq (Zr (Dj S slot) (Jg S))).gen=S.gen;rw[A];rfl
  ·show (gN (Un (Zr (Dj S slot) (Jg S))) 0 2:Int)=S.Qb;rw[m];exact B
  ·show (gN (Un (Zr (Dj S slot) (Jg S))) 2 2:Int)=S.log;rw[m];exact D
  ·exact d rfV λk b=>(y k b).2.1
theorem qsi {l:List UInt8}{slot:Int}(h:Xm l slot=true):okB l=true/\Xq (rdL l) slot=true/\l=swB (rdL l) slot:=by
 unfold Xm at h;rw[Bool.and_eq_true,Bool.and_eq_true] at h;exact⟨h.1,h.2.1,of_decide_eq_true h.2.2⟩
theorem qbz {S:Sp}{slot:Int}(h:Xq S slot=true):Xm (swB S slot) slot=true/\Gf (swB S slot) slot=S:=by
 obtain⟨h0,_,h2,_⟩:=qvu h;have b:Xm (swB S slot) slot=true:=by
  unfold Xm;rw[h0,h2,h];simp
 exact⟨b,by rw[(qja b).1,h2]⟩
theorem qv1 {l:List UInt8}{slot:Int}:(Gf l slot).gen=0/\srE l slot=3/\Xm l slot=false\/1<=(Gf l slot).gen/\srE l slot=0/\Xm l slot=true:=by
 cases h:Xm l slot
 ·obtain⟨h1,h2⟩:=qhk h;exact .inl ⟨by rw[h1];rfl,h2,rfl⟩
 ·obtain⟨h1,h2⟩:=qja h;have b:=(qsi h).2.1;unfold Xq at b;rw[Bool.and_eq_true] at b;exact .inr ⟨by rw[h1];exact (q12 b.1).1.1,h2,rfl⟩
def snK (a b:List UInt8):Nat:=if Xm a 0=false/\Xm b 1=false then 2 else if (Gf a 0).gen<(Gf b 1).gen then 1 else 0
def snS (a b:List UInt8):Sp:=if snK a b=2 then Sp.zero else if snK a b=1 then Gf b 1 else Gf a 0
def snI (a b:List UInt8):Int:=if snK a b=1 then 1 else 0
def Fg (a b:List UInt8):Int:=if snK a b=2 then 27 else 0
theorem Qcg {a b:List UInt8}(h1:Xm a 0=false)(h2:Xm b 1=false):snS a b=Sp.zero/\snI a b=0/\Fg a b=27:=by
 have:snK a b=2:=if_pos ⟨h1,h2⟩;unfold snS snI Fg;rw[this];exact⟨rfl,rfl,rfl⟩
theorem Qbo {a b:List UInt8}(h1:¬(Xm a 0=false/\Xm b 1=false))(h2:(Gf a 0).gen<(Gf b 1).gen):snS a b=Gf b 1/\snI a b=1/\Fg a b=0:=by
 have:snK a b=1:=by unfold snK;rw[if_neg h1,if_pos h2]
 unfold snS snI Fg;rw[this];exact⟨rfl,rfl,rfl⟩
theorem Qbn {a b:List UInt8}(h1:¬(Xm a 0=false/\Xm b 1=false))(h2:¬(Gf a 0).gen<(Gf b 1).gen):snS a b=Gf a 0/\snI a b=0/\Fg a b=0:=by
 have:snK a b=0:=by unfold snK;rw[if_neg h1,if_neg h2]
 unfold snS snI Fg;rw[this];exact⟨rfl,rfl,rfl⟩
section
def Qo (n:Nat)(g:Int):Nat:=2+Qe n*(g % 2).toNat
def Uh (n:Nat)(g:Int)(i:Nat):Hd:=⟨2,((Qo n g+i:Nat):Int),0,0,g⟩
def Y4 (C:Ct)(g:Int):List (List UInt8):=(List.range (Qe C.n)).map λi=>Zr (Uh C.n g i) (C.body (i:Int))
def Kv (g:Int):Prop:=1<=g/\g<=1099511627775
theorem q2x {n:Nat}(h1:32<=n)(h2:n<=2048)(g:Int){i:Nat}(m:i<Qe n):2<=Qo n g/\Qo n g+i<=40/\Qo n g+i<2+2*Qe n/\Qo n g+i<n:=by
 have h0:=Int.emod_nonneg g (show (2:Int)≠0 by omega);have b:=Int.emod_lt_of_pos g (show (0:Int)<2 by omega);have d:Qe n<=18:=by unfold Qe;omega
 have f:2+2*Qe n<=n:=by unfold Qe;omega
 unfold Qo;rcases (show (g % 2).toNat=0\/(g % 2).toNat=1 by omega) with e|e<;>rw[e]<;>omega
theorem qnt {n:Nat}(h1:32<=n)(h2:n<=2048){g:Int}(b:Kv g){i:Nat}(d:i<Qe n):(Uh n g i).ok=true:=by
 have:=q2x h1 h2 g d;refine decide_eq_true ⟨⟨by show (1:Int)<=2;omega,by show (2:Int)<=6;omega⟩,⟨by show (0:Int)<=0;omega,by show (0:Int)<=8;omega⟩,⟨?_,?_⟩,⟨by show (0:Int)<=0;omega,by show (0:Int)<=65535;omega⟩,?_,?_⟩
 ·show (0:Int)<=((Qo n g+i:Nat):Int);omega
 ·show ((Qo n g+i:Nat):Int)<=2047;omega
 ·show 0<=g;exact Int.le_trans (by omega) b.1
 ·exact b.2
def Kt (x:List UInt8)(a:Nat)(g:Int):Bool:=Td x 2 (a:Int)&&decide ((Yq x).count=0/\(Yq x).level=0/\(Yq x).gen=g)
theorem qjc {C:Ct}(h1:32<=C.n)(h2:C.n<=2048){g:Int}(f:Kv g){i:Nat}(b:i<Qe C.n):Kt (Zr (Uh C.n g i) (C.body (i:Int))) (Qo C.n g+i) g=true/\(Zr (Uh C.n g i) (C.body (i:Int))).drop 20=C.body (i:Int):=by
 have e:=qnt h1 h2 f b;have d:(C.body (i:Int)).length<=236:=by rw[Ct.Ug b];exact Nat.le_refl _
 refine⟨?_,?_⟩
 ·unfold Kt;rw[qrf _ _ e d,(q7a _ _ e d).1,Bool.and_eq_true];exact⟨decide_eq_true ⟨rfl,rfl⟩,decide_eq_true ⟨rfl,rfl,rfl⟩⟩
 ·rw[ql2 _ _ d,Ct.Ug b];simp
def Gq (f:Nat->List UInt8):Sp:=snS (f 0) (f 1)
def mtB (f:Nat->List UInt8)(n:Nat)(g:Int):List (List UInt8):=(List.range (Qe n)).map λi=>(f (Qo n g+i)).drop 20
def Me (f:Nat->List UInt8)(n:Nat)(g:Int):Ct:=Vu n (mtB f n g)
open Classical in
noncomputable def Eb (f:Nat->List UInt8) (off:Bool) (n:Nat):Int:=
 if off=true then 4 else if ¬(Fg (f 0) (f 1)=0/\(Gq f).Qb=(n:Int)) then 27 else if ¬((∀i,i<Qe n->Kt (f (Qo n (Gq f).gen+i)) (Qo n (Gq f).gen+i) (Gq f).gen=true)/\Xf (n:Int) (mtB f n (Gq f).gen)=0) then 5 else 0
theorem qnu {S:Sp}(hm:S.may=true){f:Nat->List UInt8}(h0:f (S.gen % 2).toNat=swB S (S.gen % 2))(h1:(Gf (f ((S.gen+1) % 2).toNat) ((S.gen+1) % 2)).gen<S.gen):Gq f=S/\Fg (f 0) (f 1)=0:=by
 have A:=Int.emod_nonneg S.gen (show (2:Int)≠0 by omega);have B:=Int.emod_lt_of_pos S.gen (show (0:Int)<2 by omega);have y:Xq S (S.gen % 2)=true:=by unfold Xq;rw[hm,Bool.true_and];exact decide_eq_true ⟨A,by omega⟩
 obtain⟨p,d⟩:=qbz y;rcases (show S.gen % 2=0\/S.gen % 2=1 by omega) with e|e
 ·have u:(S.gen+1) % 2=1:=by omega
  rw[e] at h0 p d;rw[u] at h1;replace h0:f 0=swB S 0:=h0;replace h1:(Gf (f 1) 1).gen<S.gen:=h1;have h:=Qbn (a:=f 0) (b:=f 1) (λm=>by rw[h0,p] at m;cases m.1) (by rw[h0,d];omega);exact⟨by unfold Gq;rw[h.1,h0,d],h.2.2⟩
 ·have u:(S.gen+1) % 2=0:=by omega
  rw[e] at h0 p d;rw[u] at h1;replace h0:f 1=swB S 1:=h0;replace h1:(Gf (f 0) 0).gen<S.gen:=h1;have h:=Qbo (a:=f 0) (b:=f 1) (λm=>by rw[h0,p] at m;cases m.2) (by rw[h0,d];exact h1);exact⟨by unfold Gq;rw[h.1,h0,d],h.2.2⟩
theorem qvv {S:Sp}(hm:S.may=true){C:Ct}(b:C.ok)(D:C.res)(hn:S.Qb=(C.n:Int)){f:Nat->List UInt8}(h0:f (S.gen % 2).toNat=swB S (S.gen % 2))(h1:(Gf (f ((S.gen+1) % 2).toNat) ((S.gen+1) % 2)).gen<S.gen)
  (h2:∀i,i<Qe C.n->f (Qo C.n S.gen+i)=Zr (Uh C.n S.gen i) (C.body (i:Int))):Eb f false C.n=0/\Gq f=S/\Me f C.n S.gen=C.commit:=by
 obtain⟨p,B⟩:=qnu hm h0 h1;have u:Kv S.gen:=by
  have:=(q12 hm).1;exact⟨this.1,this.2.1⟩
 have m:mtB f C.n S.gen=C.bodies:=by
  unfold mtB Ct.bodies;refine List.map_congr_left λi e=>?_
  have d:=List.mem_range.1 e;rw[h2 i d,(qjc b.1.1 b.1.2 u d).2]
 obtain⟨y,A⟩:=Ct.Lr b D;refine⟨?_,p,by unfold Me;rw[m,A]⟩;unfold Eb;rw[p,if_neg (by decide),if_neg (λh=>h ⟨B,hn⟩),if_neg (λh=>h ⟨λi e=>by rw[h2 i e];exact (qjc b.1.1 b.1.2 u e).1,by rw[m];exact y⟩)]
def Qb0 (k:Int)(a:Nat)(m:Nat)(g:Int):Hd:=⟨k,(a:Int),(m:Int),0,g⟩
theorem qo3 (m:Nat):Y3 (List.replicate m 0)=true:=by
 unfold Y3;simp
theorem qnv (slot:Int):Xm (List.replicate 256 0) slot=false:=by
 have h:okB (List.replicate 256 0)=false:=by
  cases d:okB (List.replicate 256 0)
  ·rfl
  ·obtain⟨_,_,b,_⟩:=of_decide_eq_true d;have:(G6 (((List.replicate 256 (0:UInt8)).drop 4).take 11)).ok=false:=by decide
   rw[this] at b
   cases b
 unfold Xm;rw[h,Bool.false_and]
end
def q13:List UInt8:=List.replicate 256 0
def Vf (_:Nat):List Stp:=[.w 0 q13,.w 1 q13,.fl]
def Tm (n:Nat):List Stp:=Dx (Qo n 1) (Y4 (Ct.zero n) 1)++[.fl]
def fmtS (n:Nat):Sp:=sp0 1 (n:Int) 0
def fmtC (n:Nat):List Stp:=[.w 1 (swB (fmtS n) 1),.fl]
def Xt (n:Nat):List Stp:=Vf n++(Tm n++fmtC n)
theorem q1h (C:Ct)(g:Int):(Y4 C g).length=Qe C.n:=by unfold Y4;simp
theorem qdk (C:Ct)(g:Int){i:Nat}(b:i<Qe C.n):(Y4 C g).getD i []=Zr (Uh C.n g i) (C.body (i:Int)):=by
 unfold Y4;rw[List.getD_eq_getElem?_getD,List.getElem?_map,List.getElem?_range b];rfl
theorem qfb {C:Ct}(_:32<=C.n)(_:C.n<=2048){g:Int}(_:Kv g){x:List UInt8}(b:x∈Y4 C g):x.length=256:=by
 unfold Y4 at b;rw[List.mem_map] at b;obtain⟨i,d,rfl⟩:=b;exact q76 _ _ (by rw[Ct.Ug (List.mem_range.1 d)];exact Nat.le_refl _)
theorem q5b {n:Nat}(h1:32<=n)(h2:n<=2048):(fmtS n).may=true:=by
 refine qiy ?_ λj d=>?_
 ·unfold Sp.hd fmtS sp0;exact decide_eq_true ⟨by show (1:Int)<=1;omega,by show (1:Int)<=1099511627775;omega,by show (32:Int)<=(n:Int);omega,by show (n:Int)<=2048;omega,by show (0:Int)<=0;omega,by show (0:Int)<=(n:Int)-1;omega⟩
 ·have e:(fmtS n).at_ j=Vl.zero:=by
   unfold Sp.at_ fmtS sp0;rw[List.getD_eq_getElem?_getD,List.getElem?_replicate];split<;>rfl
  have b:Vl.zero.same Vl.zero=true:=by simp[Vl.same]
  unfold Sp.ok1;rw[e,b,Bool.true_or]
theorem qxi {n:Nat}(h1:32<=n)(h2:n<=2048):∀a∈Xt n,a.ok n:=by
 intro a b;have m:q13.length=256:=by unfold q13;rw[List.length_replicate]
 unfold Xt Vf Tm fmtC at b;rw[List.mem_append,List.mem_append,List.mem_append] at b;rcases b with b|(b|b)|b
 ·simp at b;rcases b with rfl|rfl|rfl
  ·exact⟨by omega,m⟩
  ·exact⟨by omega,m⟩
  ·trivial
 ·cases a with
  |w s x=>
   obtain⟨i,e,u,p⟩:=qhj b;rw[q1h,Ct.Q9] at e;have:=q2x h1 h2 1 e;refine⟨by omega,?_⟩;rw[p];have d:i<(Y4 (Ct.zero n) 1).length:=by rw[q1h,Ct.Q9];exact e
   refine qfb (C:=Ct.zero n) (by rw[Ct.Q9];exact h1) (by rw[Ct.Q9];exact h2) (g:=1) ⟨by omega,by omega⟩ ?_;rw[List.getD_eq_getElem?_getD,List.getElem?_eq_getElem d];exact List.getElem_mem d
  |fl=>trivial
 ·simp at b;subst b;trivial
 ·simp at b;rcases b with rfl|rfl
  ·refine⟨by omega,?_⟩;have f:Xq (fmtS n) 1=true:=by unfold Xq;rw[q5b h1 h2,Bool.true_and];decide
   unfold swB;rw[if_pos f];exact q76 _ _ (by rw[q7e (q5b h1 h2)];omega)
  ·trivial
theorem qnw {n:Nat}:(Xt n).length=Qe n+6:=by
 unfold Xt Vf Tm fmtC;rw[List.length_append,List.length_append,List.length_append,qdj,q1h,Ct.Q9];simp;omega
theorem qnx {n:Nat}(h1:32<=n)(h2:n<=2048)(d:Nat->List UInt8):Xc 0 (Xt n) (d 0)=q13/\Xc 1 (Xt n) (d 1)=swB (fmtS n) 1/\∀i,i<Qe n->Xc (Qo n 1+i) (Xt n) (d (Qo n 1+i))=Zr (Uh n 1 i) ((Ct.zero n).body (i:Int)):=by
 have f:∀s,s<2->spares s (Dx (Qo n 1) (Y4 (Ct.zero n) 1)):=λs p=>q7j (.inl (by unfold Qo;omega))
 unfold Xt Vf Tm fmtC;refine⟨?_,?_,λi b=>?_⟩
 ·rw[Oc,Oc,Oc,q15 (f 0 (by omega))];rfl
 ·rw[Oc,Oc];rfl
 ·have e:i<(Y4 (Ct.zero n) 1).length:=by rw[q1h,Ct.Q9];exact b
  have h:=q2x h1 h2 1 b;rw[Oc,Oc,Oc,qf8 _ _ _ _ e,qdk _ _ (by rw[Ct.Q9];exact b),Ct.Q9];exact q15 (s:=Qo n 1+i) (l:=[Stp.w 1 (swB (fmtS n) 1),.fl]) (λt x m=>by simp at m;omega) _
inductive Bk where
 |node (N:Nd)
 |bytes (k:Int) (l:List UInt8)
def Bk.out (b:Bk)(a:Nat)(g:Int):List UInt8:=match b with
 |.node N=>Jm N (a:Int) g
 |.bytes k l=>Zr (Qb0 k a l.length g) l
def Bk.fine (b:Bk):Prop:=∀(a:Nat) (g:Int),a<=2047->Kv g->(b.out a g).length=256
structure Pl where
 S:Sp
 C:Ct
 L:Nat->Option Bk
def Pl.g (P:Pl):Int:=P.S.gen+1
def Pl.Ib (P:Pl)(a:Nat):Option (Nat × List UInt8):=match P.L a with
 |some b=>if P.C.get (a:Int)=0 then none else some (a,b.out a P.g)
 |none=>none
def Pl.new (P:Pl):List (Nat × List UInt8):=(List.range P.C.n).filterMap P.Ib
def Pl.sup (P:Pl):Sp:=⟨P.g,P.S.Qb,P.S.log,P.S.Jk,P.S.len⟩
def Pl.blocks (P:Pl):List Stp:=Io P.new++Dx (Qo P.C.n P.g) (Y4 P.C P.g)
def Pl.steps (P:Pl):List Stp:=Uo P.blocks (P.g % 2).toNat (swB P.sup (P.g % 2))
def Pl.done (P:Pl):Pl:=⟨P.sup,P.C.commit,λ_=>none⟩
structure Pl.ok (P:Pl):Prop where
 c:P.C.ok
 res:P.C.res
 may:P.S.may=true
 sec:P.S.Qb=(P.C.n:Int)
 gen:P.S.gen<1099511627775
 fine:∀a b,P.L a=some b->b.fine
theorem Pl.ok.Kv {P:Pl}(h:P.ok):Go.Proofs.YtnnbaihfboacoaaGreatDoor.Kv P.g:=by
 have:=(q12 h.may).1;exact⟨by unfold Pl.g;omega,by have:=h.gen;unfold Pl.g;omega⟩
theorem Pl.ok.Cm {P:Pl}(h:P.ok):P.sup.may=true:=by
 obtain⟨h1,h2⟩:=q12 h.may;have b:=h.Kv;refine qiy (decide_eq_true ⟨b.1,b.2,h1.2.2⟩) λj e=>?_
 have d:P.S.ok1 j=true:=by
  have hm:=h.may;unfold Sp.may at hm;rw[Bool.and_eq_true,List.all_eq_true] at hm;exact hm.2 j (List.mem_range.2 e)
 exact d
theorem q7l {P:Pl}{a:Nat}{x:List UInt8}:(a,x)∈P.new↔a<P.C.n/\∃b,P.L a=some b/\¬P.C.get (a:Int)=0/\x=b.out a P.g:=by
 unfold Pl.new;rw[List.mem_filterMap];constructor
 ·rintro⟨c,u,hn⟩;unfold Pl.Ib at hn
  cases d:P.L c with
  |none=>rw[d] at hn;cases hn
  |some b=>
   rw[d] at hn;dsimp only at hn;split at hn
   ·cases hn
   ·rename_i e;injection hn with hn;injection hn with f m;subst f;exact⟨List.mem_range.1 u,b,d,e,m.symm⟩
 ·rintro⟨p,b,d,e,rfl⟩;refine⟨a,List.mem_range.2 p,?_⟩;unfold Pl.Ib;rw[d];dsimp only;rw[if_neg e]
theorem q9q {P:Pl}(h:P.ok){a:Nat}{x:List UInt8}(e:(a,x)∈P.new):a<P.C.n/\P.C.first<=a:=by
 obtain⟨h1,b,_,d,_⟩:=q7l.1 e;have:=(Ct.Kw h.res d).2.2;rw[Int.toNat_natCast] at this;exact⟨h1,this⟩
theorem qhl (g:Int):(g % 2).toNat<2/\((g % 2).toNat:Int)=g % 2:=by omega
theorem Pl.Qai {P:Pl}(h:P.ok):∀s∈P.steps,s.ok P.C.n:=by
 intro s d;have hn:=h.c.1;have A:=h.Kv;have E:=qhl P.g;unfold Pl.steps Uo Pl.blocks at d;rw[List.mem_append,List.mem_append] at d;rcases d with (d|d)|d
 ·cases s with
  |fl=>trivial
  |w a x=>
   unfold Io at d;rw[List.mem_map] at d;obtain⟨⟨F,G⟩,D,e⟩:=d;injection e with p m;dsimp only at p m;subst p m;obtain⟨h1,b,B,_,rfl⟩:=q7l.1 D;exact⟨h1,h.fine _ _ B _ _ (by omega) A⟩
 ·cases s with
  |fl=>trivial
  |w a x=>
   obtain⟨i,u,p,m⟩:=qhj d;have f:=u;rw[q1h] at f;have:=q2x hn.1 hn.2 P.g f;refine⟨by omega,?_⟩;rw[m,List.getD_eq_getElem?_getD,List.getElem?_eq_getElem u];exact qfb hn.1 hn.2 A (List.getElem_mem u)
 ·simp at d;rcases d with rfl|rfl|rfl
  ·trivial
  ·refine⟨by omega,?_⟩;have y:Xq P.sup (P.g % 2)=true:=by unfold Xq;rw[h.Cm,Bool.true_and];exact decide_eq_true ⟨by omega,by omega⟩
   unfold swB;rw[if_pos y];exact q76 _ _ (by rw[q7e h.Cm];omega)
  ·trivial
theorem Pl.Eh (P:Pl):P.steps.length=P.new.length+Qe P.C.n+3:=by
 unfold Pl.steps;rw[qxb];unfold Pl.blocks Io;rw[List.length_append,List.length_map,qdj,q1h]
theorem Pl.Gj {P:Pl}(_h:P.ok){s:Nat}(h1:∀x,(s,x)∉P.new)(h2:s<Qo P.C.n P.g\/Qo P.C.n P.g+Qe P.C.n<=s):spares s P.blocks:=by
 have f:spares s (Io P.new):=qdc λb p e=>h1 b.2 (by rw[<-e];exact p)
 have m:spares s (Dx (Qo P.C.n P.g) (Y4 P.C P.g)):=q7j (by rw[q1h];exact h2);intro t x d;unfold Pl.blocks at d;rcases List.mem_append.1 d with d|d
 ·exact f t x d
 ·exact m t x d
theorem Pl.Nl {P:Pl}(h:P.ok){s:Nat}(hs:s<2):spares s P.blocks:=by
 refine Pl.Gj h (λx b=>?_) (.inl (by unfold Qo;omega));have:=(q9q h b).2;unfold Ct.first at this
 omega
theorem Pl.F6 {P:Pl}(_h:P.ok){i:Nat}(hi:i<Qe P.C.n)(d:List UInt8):Xc (Qo P.C.n P.g+i) P.blocks d=Zr (Uh P.C.n P.g i) (P.C.body (i:Int)):=by
 unfold Pl.blocks;rw[Oc,qf8 _ _ _ _ (by rw[q1h];exact hi),qdk _ _ hi]
theorem Pl.Ls {P:Pl}(h:P.ok){a:Nat}{b:Bk}(ha:a<P.C.n)(hL:P.L a=some b)(hg:¬P.C.get (a:Int)=0)(d:List UInt8):Xc a P.blocks d=b.out a P.g:=by
 have hm:(a,b.out a P.g)∈P.new:=q7l.2 ⟨ha,b,hL,hg,rfl⟩;have hn:=h.c.1;have u:=(q9q h hm).2;have m:spares a (Dx (Qo P.C.n P.g) (Y4 P.C P.g)):=q7j (by
  rw[q1h];right
  by_cases h0:0<Qe P.C.n
  ·have:=q2x hn.1 hn.2 P.g (i:=Qe P.C.n-1) (by omega);unfold Ct.first at u
   omega
  ·have:Qe P.C.n=0:=by omega
   exfalso
   unfold Qe at this;omega)
 unfold Pl.blocks;rw[Oc,qhd a _ _ _ hm λy A=>by
  obtain⟨_,B,f,_,e⟩:=q7l.1 A;rw[hL] at f;injection f with p;rw[e,<-p],q15 m]
structure Qa6 (P:Pl)(S0:Sp)(C0:Ct)(f:Nat->List UInt8):Prop where
 may:S0.may=true
 gen:S0.gen=P.S.gen
 sec:S0.Qb=(P.C.n:Int)
 c:C0.ok
 res:C0.res
 n:C0.n=P.C.n
 slot:f (P.S.gen % 2).toNat=swB S0 (P.S.gen % 2)
 other:(Gf (f ((P.S.gen+1) % 2).toNat) ((P.S.gen+1) % 2)).gen<P.S.gen
 area:∀i,i<Qe P.C.n->f (Qo P.C.n P.S.gen+i)=Zr (Uh P.C.n P.S.gen i) (C0.body (i:Int))
structure DM.free (D:DM):Prop where
 on:D.off=false
 Oi:D.fused=false
theorem qny {D:DM}(h:D.free)(m:Nat):D.room m=m:=by
 unfold DM.room;rw[h.on,h.Oi];rfl
theorem qjd {D:DM}(h:D.free){l:List Stp}(m:∀a∈l,a.ok D.n):D.Zy l=0/\(D.Qk l).free/\(D.Qk l).n=D.n/\(D.Qk l).steps=D.steps+l.length/\(D.Qk l).mem=D.mem.Ox l:=by
 obtain⟨h1,h2,_,e,b,_,f⟩:=qse l D m;have d:=qny h l.length;rw[d,List.take_length] at h1;rw[d] at b;rcases f with⟨_,j2,j3⟩|⟨j1,_,_⟩
 ·exact⟨j2,⟨j3.trans h.on,e.trans h.Oi⟩,h2,b,h1⟩
 ·omega
theorem qnz (D:DM)(s:Nat):D.mem.Zp s=D.Zp s:=rfl
theorem qvx (D:DM)(s:Nat):D.mem.Jp s=D.Jp s:=rfl
theorem qli (D:DM)(s:Nat):D.mem.newest s=D.newest s:=rfl
def Pl.fresh (n:Nat):Pl:=⟨fmtS n,Ct.zero n,λ_=>none⟩
theorem qje {n:Nat}(h1:32<=n)(h2:n<=2048):(Pl.fresh n).ok:=
 ⟨Ct.Ba h1 h2,Ct.Ip n,q5b h1 h2,by show (n:Int)=((Ct.zero n).n:Int);rw[Ct.Q9],by show (1:Int)<1099511627775;omega,λa b h=>by cases h⟩
structure Sound (D:DM)(P:Pl)(S0:Sp)(C0:Ct):Prop where
 free:D.free
 n:D.n=P.C.n
 Vr:∀s,D.Zp s=[]
 holds:Qa6 P S0 C0 D.Jp
theorem qdl {D:DM}{n:Nat}(h1:32<=n)(h2:n<=2048)(hn:D.n=n)(h:D.free):D.Zy (Xt n)=0/\Sound (D.Qk (Xt n)) (Pl.fresh n) (fmtS n) (Ct.zero n)/\(D.Qk (Xt n)).steps=D.steps+(Qe n+6):=by
 subst hn;obtain⟨m,p,u,d,e⟩:=qjd h (qxi h1 h2);rw[qnw] at d;have f:∀s,(D.Qk (Xt D.n)).Zp s=[]:=λs=>by
  rw[<-qnz,e];unfold Xt fmtC;rw[q7i,q7i];rfl
 have hd:∀s,(D.Qk (Xt D.n)).Jp s=Xc s (Xt D.n) (D.newest s):=λs=>by
  have y:(D.Qk (Xt D.n)).newest s=(D.Qk (Xt D.n)).Jp s:=by unfold DM.newest;rw[f];rfl
  rw[<-y,<-qli,e,q5a];rfl
 obtain⟨B,E,F⟩:=qnx h1 h2 D.newest;refine⟨m,⟨p,u.trans (Ct.Q9 _).symm,f,?_⟩,d⟩;refine⟨q5b h1 h2,rfl,by show (D.n:Int)=((Ct.zero D.n).n:Int);rw[Ct.Q9],Ct.Ba h1 h2,Ct.Ip _,rfl,?_,?_,λi A=>?_⟩
 ·show (D.Qk (Xt D.n)).Jp 1=swB (fmtS D.n) 1;rw[hd,E]
 ·show (Gf ((D.Qk (Xt D.n)).Jp 0) 0).gen<1;rw[hd,B];unfold q13;rw[(qhk (qnv 0)).1];decide
 ·have b:i<Qe D.n:=by
   have:(Pl.fresh D.n).C.n=D.n:=Ct.Q9 _;rwa [this] at A
  show (D.Qk (Xt D.n)).Jp (Qo (Ct.zero D.n).n 1+i)=Zr (Uh (Ct.zero D.n).n 1 i) _;rw[Ct.Q9,hd,F i b]
theorem qfd {D:DM}{P:Pl}(h:P.ok){H:Sp}{R:Ct}(p:Sound D P H R) :
  D.Zy P.steps=0/\Sound (D.Qk P.steps) P.done P.sup P.C/\(D.Qk P.steps).steps=D.steps+(P.new.length+Qe P.C.n+3)/\
   (∀a b,a<P.C.n->P.L a=some b->¬P.C.get (a:Int)=0->(D.Qk P.steps).Jp a=b.out a P.g)/\(∀s,P.C.first<=s->(∀x,(s,x)∉P.new)->(D.Qk P.steps).Jp s=D.Jp s):=by
 have hn:=h.c.1;have Z:=qhl P.g;have Q:=qhl P.S.gen;have B:(P.S.gen % 2).toNat≠(P.g % 2).toNat:=by unfold Pl.g;omega
 obtain⟨T,U,W,I,J⟩:=qjd p.free (l:=P.steps) (λa u=>by rw[p.n];exact Pl.Qai h a u);rw[Pl.Eh] at I;have f:=λs=>quw P.blocks (P.g % 2).toNat (swB P.sup (P.g % 2)) D.mem s
 have X:∀s,(D.Qk P.steps).Zp s=[]:=λs=>by rw[<-qnz,J];exact (f s).1
 have hd:∀s,(D.Qk P.steps).Jp s=if s=(P.g % 2).toNat then swB P.sup (P.g % 2) else Xc s P.blocks (D.Jp s):=λs=>by
  have K:=(f s).2;rw[qbs (p.Vr s)] at K;rw[<-qvx,J];exact K
 have A:=p.holds;have d:∀{s:Nat},P.C.first<=s->s≠(P.g % 2).toNat:=λ{s} y=>by unfold Ct.first at y;omega
 refine⟨T,⟨U,W.trans p.n,X,?_⟩,I,λa b u M O=>?_,λs y F=>?_⟩
 ·refine⟨h.Cm,rfl,h.sec,h.c,h.res,rfl,?_,?_,λi Y=>?_⟩
  ·show (D.Qk P.steps).Jp (P.g % 2).toNat=swB P.sup (P.g % 2);rw[hd,if_pos rfl]
  ·show (Gf ((D.Qk P.steps).Jp ((P.g+1) % 2).toNat) ((P.g+1) % 2)).gen<P.g;have e:(P.g+1) % 2=P.S.gen % 2:=by unfold Pl.g;omega
   rw[e,hd,if_neg B,q15 (Pl.Nl h (by omega)),A.slot];have G:Xq H (P.S.gen % 2)=true:=by unfold Xq;rw[A.may,Bool.true_and];exact decide_eq_true ⟨by omega,by omega⟩
   rw[(qbz G).2,A.gen];unfold Pl.g;omega
  ·have m:i<Qe P.C.n:=Y;have:=q2x hn.1 hn.2 P.g m;show (D.Qk P.steps).Jp (Qo P.C.n P.g+i)=Zr (Uh P.C.n P.g i) (P.C.body (i:Int));rw[hd,if_neg (by omega),Pl.F6 h m]
 ·have hm:(a,b.out a P.g)∈P.new:=q7l.2 ⟨u,b,M,O,rfl⟩;rw[hd,if_neg (d (q9q h hm).2),Pl.Ls h u M O]
 ·have E:s<Qo P.C.n P.g\/Qo P.C.n P.g+Qe P.C.n<=s:=by
   right
   unfold Ct.first at y
   unfold Qo;rcases (show (P.g % 2).toNat=0\/(P.g % 2).toNat=1 by omega) with e|e<;>rw[e]<;>omega
  rw[hd,if_neg (d y),q15 (Pl.Gj h F E)]
theorem q8g {D:DM}{P:Pl}{e:Sp}{d:Ct}(m:Sound D P e d):Eb D.newest false D.n=0/\Gq D.newest=e/\Me D.newest D.n P.S.gen=d.commit:=by
 have H:=m.holds;have b:∀s,D.newest s=D.Jp s:=λs=>by unfold DM.newest;rw[m.Vr];rfl
 have p:=qvv (S:=e) H.may (C:=d) H.c H.res (by rw[H.n];exact H.sec) (f:=D.newest) (by rw[H.gen,b];exact H.slot) (by rw[H.gen,b];exact H.other)
  (λi u=>by rw[H.n] at u ⊢;rw[H.gen,b];exact H.area i u)
 rw[H.n,H.gen] at p;rw[m.n];exact p
theorem Ct.Oj {C:Ct}{k:Nat}(h:C.pick=some k)(j:Nat)(hj:j<C.n):C.alloc.may j=if j=k then false else C.may j:=by
 obtain⟨h1,h2,d,f,_⟩:=Ct.Xk h;rw[(Ct.Xv h).2.2,Ct.Eu,Ct.Eu,Ct.Bj (C.Zi k 1),q6d C k 1 j hj];have e:nm (C.put k 1).done j=nm C.done j:=rfl;rw[e];by_cases b:j=k
 ·rw[if_pos b,if_pos b];exact decide_eq_false (by rintro⟨_,m,_⟩;omega)
 ·rw[if_neg b,if_neg b]
theorem Ct.En {C:Ct}{k:Nat}(h:C.pick=some k):∀m,m<=C.n->C.alloc.Jw m+(if k<m then 1 else 0)=C.Jw m:=by
 obtain⟨h1,h2,p,u,_⟩:=Ct.Xk h;have d:C.may k=true:=by rw[Ct.Eu];exact decide_eq_true ⟨h2,p,u⟩
 intro m;induction m with
 |zero=>intro _;rfl
 |succ m b=>
  intro hm;have b:=b (by omega);rw[Ct.Ku,Ct.Ku,Ct.Oj h m (by omega)];by_cases e:m=k
  ·subst e;rw[if_pos rfl,if_neg (by decide),if_pos (by omega),if_pos d];rw[if_neg (by omega)] at b;omega
  ·rw[if_neg e];by_cases f:k<m
   ·rw[if_pos f] at b;rw[if_pos (show k<m+1 by omega)];omega
   ·rw[if_neg f] at b;rw[if_neg (show ¬k<m+1 by omega)];omega
theorem Ct.Uz {C:Ct}{k:Nat}(h:C.pick=some k):C.alloc.free+1=C.free:=by
 have b:=(Ct.Xk h).1;have:=Ct.En h C.n (Nat.le_refl _);rw[if_pos b] at this;unfold Ct.free;rw[C.Eo];exact this
theorem Ct.Ul {C:Ct}(h:0<C.free):∃k,C.pick=some k:=by
 cases b:C.pick with
 |some k=>exact⟨k,rfl⟩
 |none=>have:=Ct.Ws b;omega
def Pl.lay (P:Pl)(b:Bk):Pl:=match P.C.pick with
 |some a=>⟨P.S,P.C.alloc,upd P.L a (some b)⟩
 |none=>P
theorem q37 {P:Pl}{a:Nat}(h:P.C.pick=some a)(b:Bk):P.lay b=⟨P.S,P.C.alloc,upd P.L a (some b)⟩:=by unfold Pl.lay;rw[h]
theorem qo0 {P:Pl}(h:P.ok){b:Bk}(p:b.fine):(P.lay b).ok:=by
 cases m:P.C.pick with
 |none=>
  have:P.lay b=P:=by unfold Pl.lay;rw[m]
  rw[this];exact h
 |some a=>
  rw[q37 m];refine⟨Ct.Sm h.c,Ct.Ol h.res,h.may,by show P.S.Qb=(P.C.alloc.n:Int);rw[Ct.Eo];exact h.sec,h.gen,λc d f=>?_⟩;replace f:upd P.L a (some b) c=some d:=f;by_cases e:c=a
  ·subst e;rw[Aw] at f;injection f with f;exact f▸p
  ·rw[Ar _ _ e] at f;exact h.fine c d f
theorem qo1 {P:Pl}(b:Bk):(P.lay b).C.n=P.C.n:=by
 unfold Pl.lay;split
 ·exact P.C.Eo
 ·rfl
theorem qvw {P:Pl}(b:Bk):(P.lay b).S=P.S:=by
 unfold Pl.lay;split<;>rfl
theorem qo2 {D:DM}{P:Pl}{m:Sp}{f:Ct}(h:Sound D P m f)(b:Bk):Sound D (P.lay b) m f:=by
 have d:=qo1 (P:=P) b;have e:=qvw (P:=P) b;refine⟨h.free,h.n.trans d.symm,h.Vr,?_⟩;have H:=h.holds;exact⟨H.may,by rw[e];exact H.gen,by rw[d];exact H.sec,H.c,H.res,by rw[d];exact H.n,by rw[e];exact H.slot,by rw[e];exact H.other,by rw[d,e];exact H.area⟩
theorem qdm {P:Pl}{a:Nat}(h:P.C.pick=some a)(b:Bk)(c:Nat)(d:c<P.C.n):(P.lay b).C.get (c:Int)=if c=a then 1 else P.C.get (c:Int):=by
 rw[q37 h];show P.C.alloc.get (c:Int)=_;rw[(Ct.Xv h).2.2];unfold Ct.get;rw[C_put_n_get d,q6d P.C a 1 c d];by_cases e:c=a
 ·rw[if_pos e,if_pos e]
 ·rw[if_neg e,if_neg e,if_pos (show 0<=(c:Int)/\(c:Int)<(P.C.n:Int) by omega),Int.toNat_natCast]
 where
 C_put_n_get {C:Ct} {k:Nat} {x:Int} {c:Nat} (d:c<C.n):(if 0<=(c:Int)/\(c:Int)<((C.put k x).n:Int) then nm (C.put k x).now (c:Int).toNat else 0)=nm (C.put k x).now c:=by
  rw[C.Zi,if_pos ⟨by omega,by omega⟩,Int.toNat_natCast]
theorem qfc {P:Pl}{a:Nat}(h:P.C.pick=some a)(b:Bk)(c:Nat):(P.lay b).L c=if c=a then some b else P.L c:=by
 rw[q37 h];rfl
section
def q3i (A:Option Addr)(n c:Nat)(a:List UInt8)(B:Option Addr)(m d:Nat)(b:List UInt8)(w:World):Prop:=
  Calls Tryz.prog 57 #[.slice A n c,.slice B m d] w λe f=>e=.returned (.tuple #[.agg (snS a b).vs.toArray,.int .i64 (snI a b),.int .i64 (Fg a b)])/\Below w.1.size w f
attribute [local go_sem ↓] q1n q7c q3f q9e qjb
theorem q7k (A:Option Addr)(n c:Nat)(a:List UInt8)(B:Option Addr)(m d:Nat)(b:List UInt8)(w:World)(ha:Sl w A n c a)(hb:Sl w B m d b)(ht:Tab w):q3i A n c a B m d b w:=by
 unfold q3i;have b7:=qbf true;have b8:=ql7;have Z1:=SB.new w Sp.zero 98;have b1:Below w.1.size w (w.alloc (.cells Sp.zero.vs.toArray 98)):=Qm;go_enter Tryz.func57,Tryz.ntmps57
 go_wp2_with fail
 generalize w.alloc (.cells Sp.zero.vs.toArray 98)=w1 at Z1 b1 ⊢;refine Calls.mono (qfa A n c a 0 w1 (ha.below b1) (ht.below b1 ht.1)) ?_;rintro e w2 ⟨rfl,a6⟩;have Z2:=Z1.below a6 Z1.lt;have B2:=b1.trans (a6.mono b1.size);have H2:=SB.new w2 Sp.zero 98;have b2:Below w2.1.size w2 (w2.alloc (.cells Sp.zero.vs.toArray 98)):=Qm;have E:=qv1 (l:=a) (slot:=0);have W:=qv1 (l:=b) (slot:=1);have K2:=λh1 h2=>Qcg (a:=a) (b:=b) h1 h2
 have K1:=λh1 h2=>Qbo (a:=a) (b:=b) h1 h2
 have K0:=λh1 h2=>Qbn (a:=a) (b:=b) h1 h2
 obtain⟨SA,a8⟩:∃SA,Gf a 0=SA:=⟨_,rfl⟩;obtain⟨R,a2⟩:∃R,Gf b 1=R:=⟨_,rfl⟩;rw[a8] at E K1 K0 ⊢;rw[a2] at W K1 K0;clear a8;have KK:=Lib.hid (And.intro K2 (And.intro K1 K0));have Ka:=Lib.hid E;have Kb:=Lib.hid W;clear K2 K1 K0 E W;obtain⟨ea,b3⟩:∃ea,srE a 0=ea:=⟨_,rfl⟩;rw[b3];clear b3;go_wp2_with (first
  |(refine Ec rfl _ _ rfl w2.1.size rfl SA Sp.zero rfl H2 ?_;intro w3 H3 b0 T3;have a1:=b2.trans (b0 _ (Nat.le_refl _));have B3:=B2.trans (a1.mono B2.size);have Z3:=Z2.below a1 Z2.lt)
  |fail)
 refine Calls.mono (qfa B m d b 1 w3 (hb.below B3) (ht.below B3 ht.1)) ?_;rw[a2];rintro e P ⟨rfl,U⟩;have K:=H3.below U H3.lt;have T:=Z3.below U Z3.lt;have X:=B3.trans (U.mono B3.size);have Q:=SB.new P Sp.zero 98;have b4:Below P.1.size P (P.alloc (.cells Sp.zero.vs.toArray 98)):=Qm;obtain⟨eb,b5⟩:∃eb,srE b 1=eb:=⟨_,rfl⟩;rw[b5];clear b5 a2 H2 b2 b0 T3 a1 B3 Z3 H3 U Z2 B2 a6 Z1 b1;obtain⟨M,I⟩:∃M,SA.gen=M:=⟨_,rfl⟩;obtain⟨O,J⟩:∃O,R.gen=O:=⟨_,rfl⟩;have D:=Lib.hid I;have H:=Lib.hid J;obtain⟨bk,b6⟩:∃bk,w2.1.size=bk:=⟨_,rfl⟩;rw[b6] at K ⊢;have c6:w.1.size<P.1.size:=T.lt;have b9:bk<P.1.size:=K.lt;rcases Ka.out with E|E
 ·rcases Kb.out with W|W
  ·have p:=KK.out.1 E.2.2 W.2.2;have e1:M=0:=by rw[<-D.out];exact E.1
   have e2:O=0:=by rw[<-H.out];exact W.1
   subst e1 e2;go_wp2_with (first
    |(refine Ec rfl _ _ rfl P.1.size rfl R Sp.zero rfl Q ?_;intro w5 F u T5;have f:=b4.trans (u _ (Nat.le_refl _));have Y:=X.trans (f.mono X.size);have Z5:=T.below f T.lt;have G:=K.below f K.lt;have g5:=F.c0;have g6:=G.c0;have l5:=F.ld;have l6:=G.ld;rw[J] at g5;rw[I] at g6)
    |(refine Ec rfl _ _ rfl w.1.size rfl Sp.zero Sp.zero rfl Z5 ?_;intro w9 Z y T9)
    |fail)
   refine bodyPost_ret (q0u Tryz.results57 rfl (q4f Z)) rfl ?_;rw[p.1,p.2.1,p.2.2];exact⟨rfl,Y.trans (y _ (Nat.le_refl _))⟩
  ·have e1:M=0:=by rw[<-D.out];exact E.1
   have e2:1<=O:=by rw[<-H.out];exact W.1
   have p:=KK.out.2.1 (by rw[E.2.2,W.2.2];simp) (by rw[D.out,H.out];omega);subst e1;have e3:¬O=0:=by omega
   have e4:(0:Int)<O:=by omega
   have e5:(O==0)=false:=by simpa using e3
   go_wp2_with (first
    |(refine Ec rfl _ _ rfl P.1.size rfl R Sp.zero rfl Q ?_;intro w5 F u T5;have f:=b4.trans (u _ (Nat.le_refl _));have Y:=X.trans (f.mono X.size);have Z5:=T.below f T.lt;have G:=K.below f K.lt;have g5:=F.c0;have g6:=G.c0;have l5:=F.ld;have l6:=G.ld;rw[J] at g5;rw[I] at g6)
    |(refine Ec rfl _ _ rfl w.1.size rfl R Sp.zero rfl Z5 ?_;intro w9 Z y T9)
    |fail)
   refine bodyPost_ret (q0u Tryz.results57 rfl (q4f Z)) rfl ?_;rw[p.1,p.2.1,p.2.2];exact⟨rfl,Y.trans (y _ (Nat.le_refl _))⟩
 ·have e1:1<=M:=by rw[<-D.out];exact E.1
  have e3:¬M=0:=by omega
  have e5:(M==0)=false:=by simpa using e3
  by_cases a7:M<O
  ·have p:=KK.out.2.1 (by rw[E.2.2];simp) (by rw[D.out,H.out];exact a7);have e6:decide (M<O)=true:=decide_eq_true a7;go_wp2_with (first
    |(refine Ec rfl _ _ rfl P.1.size rfl R Sp.zero rfl Q ?_;intro w5 F u T5;have f:=b4.trans (u _ (Nat.le_refl _));have Y:=X.trans (f.mono X.size);have Z5:=T.below f T.lt;have G:=K.below f K.lt;have g5:=F.c0;have g6:=G.c0;have l5:=F.ld;have l6:=G.ld;rw[J] at g5;rw[I] at g6)
    |(refine Ec rfl _ _ rfl w.1.size rfl R Sp.zero rfl Z5 ?_;intro w9 Z y T9)
    |fail)
   refine bodyPost_ret (q0u Tryz.results57 rfl (q4f Z)) rfl ?_;rw[p.1,p.2.1,p.2.2];exact⟨rfl,Y.trans (y _ (Nat.le_refl _))⟩
  ·have p:=KK.out.2.2 (by rw[E.2.2];simp) (by rw[D.out,H.out];omega);have e6:decide (M<O)=false:=decide_eq_false a7;go_wp2_with (first
    |(refine Ec rfl _ _ rfl P.1.size rfl R Sp.zero rfl Q ?_;intro w5 F u T5;have f:=b4.trans (u _ (Nat.le_refl _));have Y:=X.trans (f.mono X.size);have Z5:=T.below f T.lt;have G:=K.below f K.lt;have g5:=F.c0;have g6:=G.c0;have l5:=F.ld;have l6:=G.ld;rw[J] at g5;rw[I] at g6)
    |(refine Ec rfl _ _ rfl w.1.size rfl SA Sp.zero rfl Z5 ?_;intro w9 Z y T9)
    |fail)
   refine bodyPost_ret (q0u Tryz.results57 rfl (q4f Z)) rfl ?_;rw[p.1,p.2.1,p.2.2];exact⟨rfl,Y.trans (y _ (Nat.le_refl _))⟩
end
