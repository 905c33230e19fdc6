/- Superblocks: the code's Read -/
import Derived.Test.YthkfkhejjmhomaaGreatDoorDz13
import Derived.Test.YthkfkhejjmhomaaGreatDoorDz16
import Derived.Test.YthkfkhejjmhomaaGreatDoorDz18
import Derived.Laws.Cover3
namespace Go.Proofs.YthkfkhejjmhomaaGreatDoor
open Go Go.RowKit Go.Proofs
set_option maxHeartbeats 4000000
set_option maxRecDepth 100000
section
def U1 (l:List UInt8):Sp:=Ho (Vk l).gen (Gf l)
def Xw (l:List UInt8)(slot:Int):Bool:=okB l&&(X8 (U1 l) slot&&decide (l=swB (U1 l) slot))
def V5 (l:List UInt8)(slot:Int):Sp:=if Xw l slot=true then U1 l else Sp.zero
def Au (l:List UInt8)(slot:Int):Int:=if Xw l slot=true then 0 else 3
theorem Kz {l:List UInt8}{slot:Int}(h:Xw l slot=false):V5 l slot=Sp.zero/\Au l slot=3:=by
 unfold V5 Au;rw[h];exact⟨rfl,rfl⟩
theorem Qnb {l:List UInt8}{slot:Int}(h:Xw l slot=true):V5 l slot=U1 l/\Au l slot=0:=by
 unfold V5 Au;rw[if_pos h,if_pos h];exact⟨rfl,rfl⟩
def Cc (p:Value):Sem Value:=Instr.loadAt 288 p
theorem Ej (p:Value):Instr.loadAt 288 p=Cc p:=rfl
theorem Qhp {P:Program}(w:World)(a:Addr)(ty:TypeId)(e:List Value)(d:TypeDesc)(m:∀(j:Nat) v,e[j]?=some v->w.cell? (a.add j)=some v)
  (u:P.underlying ty=some d) (hd:d.isRow=true) (hi:(P.info? ty).map (·.size)=some e.length) :
  (loadVar ty a).run P w=.ok (.agg e.toArray) w:=by
 have p:(loadCells a e.length).run P w=.ok e.toArray w:=run_loadCells_list (P:=P) w a e m
 cases g:P.info? ty with
 |none=>simp[g] at hi
 |some i=>
  have q:i.size=e.length:=by simpa [g] using hi
  have f:(isAgg ty).run P w=.ok true w:=by
   unfold isAgg;rw[Sem.run_bind,run_underlying u w]
   cases d<;>simp_all
  simp[loadVar,Sem.run_bind,f,sizeOf,typeInfo,g,q,p]
theorem Qt7 {w:World}{d:Addr}{c:Nat}{l:List UInt8}(h:Sl w (some d) 256 c l):(Cc (.pointer (some d))).run Tryz.prog w=.ok (.agg (l.map bv).toArray) w:=by
 have m:=h.len;unfold Cc;simp only[Instr.loadAt,Instr.sureAddr,Sem.run_bind,Sem.run_pure,Result.andThen_ok,Qhp w d 288 (l.map bv) _ (λj v p=>by
  obtain⟨f,e,_,g⟩:=h.2.2.2 j v p;injection e with e;subst e;exact g) Tryz.underlying288 rfl (by rw[List.length_map,m];kernel_rfl)]
theorem Qte (d:Option Addr)(c:Nat)(w:World):(Instr.arrayAt 288 (.slice d 256 c)).run Tryz.prog w=.ok (.pointer d) w:=
 run_arrayAt w 288 _ 256 d 256 c Tryz.underlying288 (Nat.le_refl _)
theorem Qvq (d:BinOp)(x y:Operand)(xs e:Array Value)(w:World):(eqGuard d 288 x y (.agg xs) (.agg e)).run Tryz.prog w=.ok () w:=
 run_eqGuard_agg w d 288 x y xs e (by kernel_rfl)
theorem Zev {l:List UInt8}(h:okB l=true):l.length=256:=(of_decide_eq_true h).1
def Qkw (A:Option Addr)(n c:Nat)(l:List UInt8)(slot:Int)(w:World):Prop:=
  Calls Tryz.prog 221 #[.slice A n c,.int .i64 slot] w λe d=>e=.returned (.tuple #[.agg (V5 l slot).vs.toArray,.int .i64 (Au l slot)])/\Below w.1.size w d
attribute [local go_sem ↓] Yz Vr Uo Ur Ej
theorem Ql7 (A:Option Addr)(n c:Nat)(l:List UInt8)(slot:Int)(w:World)(hs:Sl w A n c l)(ht:Tab w):Qkw A n c l slot w:=by
 unfold Qkw;have d2:=Qhr true;have d3:=Qno;have Z1:=SB.new w Sp.zero 120;have T:Below w.1.size w (w.alloc (.cells Sp.zero.vs.toArray 120)):=Ib;go_enter Tryz.func221,Tryz.ntmps221
 go_wp2_with fail
 generalize w.alloc (.cells Sp.zero.vs.toArray 120)=w1 at Z1 T ⊢;refine (open_any A n c l w1 (hs.below T) (ht.below T ht.1)).mono ?_;rintro e D ⟨A3,n3,c3,rfl,y,H⟩;have Z:=Z1.below H Z1.lt;have V:=T.trans (H.mono T.size);have HZ:=HB.zero D 198;have O:D.1.size<(D.alloc (.cells #[.int .i64 0,.int .i64 0,.int .i64 0,.int .i64 0,.int .i64 0] 198)).1.size:=by simp
 have b3:Below D.1.size D (D.alloc (.cells #[.int .i64 0,.int .i64 0,.int .i64 0,.int .i64 0,.int .i64 0] 198)):=Ib;obtain⟨o,U⟩:∃o,okB l=o:=⟨_,rfl⟩
 cases o
 ·obtain⟨P,Q⟩:=Kz (l:=l) (slot:=slot) (by unfold Xw;rw[U];rfl);have hE:=(Qje U).2.2;rw[hE];go_wp2_with (first
   |(refine Lm rfl _ _ rfl D.1.size rfl (Vk l) _ rfl HZ O ?_;intro w4 J g T4;have W:=V.trans ((b3.trans (g _ (Nat.le_refl _))).mono V.size);have Z4:=Z.below (b3.trans (g _ (Nat.le_refl _))) Z.lt)
   |(refine Iz rfl _ _ rfl w.1.size rfl Sp.zero Sp.zero rfl Z4 ?_;intro w9 H9 f T9)
   |fail)
  refine bodyPost_ret (Oy Tryz.results221 rfl (Qag H9)) rfl ?_;rw[P,Q];exact⟨rfl,W.trans (f _ (Nat.le_refl _))⟩
 ·have hE:=(Qcc U).2.2;rw[hE];have hB:Gf l=l.drop 20:=(Qcc U).2.1;have m:=Zev U;go_wp2_with (first
   |(refine Lm rfl _ _ rfl D.1.size rfl (Vk l) _ rfl HZ O ?_;intro w4 J g T4;have p:=b3.trans (g _ (Nat.le_refl _));have W:=V.trans (p.mono V.size);have Z4:=Z.below p Z.lt;have g4:=J 4 _ rfl)
   |fail)
  have z:=y.sl.below p;clear J g T4 HZ O b3 y Z V H Z1 T p;have M:Sl w4 A3 n3 c3 (Gf l):=z;have b4:n3=236:=by have:=M.len;rw[hB,List.length_drop,m] at this;omega
  have b5:148<=n3:=by omega
  have b7:n3<=1000:=by omega
  clear b4 z hB;refine (Qkv (Vk l).gen A3 n3 c3 (Gf l) w4 M b5 b7).mono ?_;rintro e w5 ⟨rfl,I⟩;have Z5:=Z4.below I Z4.lt;have B5:=W.trans (I.mono W.size);have hf:=Zad (Vk l).gen (Gf l);have b0:Ho (Vk l).gen (Gf l)=U1 l:=rfl;rw[b0] at hf ⊢;obtain⟨R,hR⟩:∃R,U1 l=R:=⟨_,rfl⟩;rw[hR] at hf ⊢;clear b0 I M Z4 W g4;have H6:=SB.new w5 Sp.zero 120;have b6:Below w5.1.size w5 (w5.alloc (.cells Sp.zero.vs.toArray 120)):=Ib;go_wp2_with (first
   |(refine Iz rfl _ _ rfl w5.1.size rfl R Sp.zero rfl H6 ?_;intro w6 H7 d T7;have E:=b6.trans (d _ (Nat.le_refl _));have B6:=B5.trans (E.mono B5.size);have Z6:=Z5.below E Z5.lt;have a6:=H7.ld)
   |fail)
  clear H6 b6 d T7 E;refine (Qew R slot hf w6 (ht.below B6 ht.1)).mono ?_;rintro e w7 ⟨A7,n7,c7,rfl,B,a2,d⟩;have Z7:=Z6.below d Z6.lt;have Y:=B6.trans (d.mono B6.size);have H8:=H7.below d H7.lt;obtain⟨k,hk⟩:∃k,X8 R slot=k:=⟨_,rfl⟩;have a7:=H8.ld;clear a6 Z6 H7 d B6
  cases k
  ·obtain⟨h1,h2⟩:=Za9 hk;obtain⟨P,Q⟩:=Kz (l:=l) (slot:=slot) (by unfold Xw;rw[hR,hk,Bool.false_and,Bool.and_false]);rw[h1];go_wp2_with fail
   refine Iq (by kernel_rfl) (by kernel_rfl) ?_;repeat (go_big_quiet_step (fail))
   refine wpQuiet_nil ?_;rintro _ ⟨u,rfl⟩;have Z9:=Z7.below u.ok Z7.lt;have B9:=Y.trans (u.ok.mono Y.size);go_wp2_with (first
    |(refine Iz rfl _ _ rfl w.1.size rfl Sp.zero Sp.zero rfl Z9 ?_;intro w9 H9 f T9)
    |fail)
   refine bodyPost_ret (Oy Tryz.results221 rfl (Qag H9)) rfl ?_;rw[P,Q];exact⟨rfl,B9.trans (f _ (Nat.le_refl _))⟩
  ·obtain⟨h1,h2,_,_⟩:=Qnh hk;obtain⟨g7,rfl,rfl,rfl⟩:=a2 hk;rw[h1];have K:=hs.below Y;have b9:n=256:=by have:=K.len;omega
   subst b9;obtain⟨ad,rfl,_⟩:=hs.cell (k:=0) (by omega);have q:=B.sl;obtain⟨X,hX⟩:∃X,swB R slot=X:=⟨_,rfl⟩;rw[hX] at q;have a1:=q.len;obtain⟨r,hr⟩:∃r,decide (l=X)=r:=⟨_,rfl⟩;have c6:∀u:Grown w7,(Cc (.pointer (some ad))).run Tryz.prog u.to=.ok (.agg (l.map bv).toArray) u.to:=λu=>Qt7 (K.below u.ok)
   have c8:∀u:Grown w7,(Cc (.pointer (some ⟨g7,0,none⟩))).run Tryz.prog u.to=.ok (.agg (X.map bv).toArray) u.to:=λu=>Qt7 (q.below u.ok)
   have d0:=Qte (some ad) c;have d1:=Qte (some ⟨g7,0,none⟩) 256;have b8:=Qwg l X m a1 r hr;have d4:=Qvq;have a8:=Lib.hid (show Xw l slot=r by unfold Xw;rw[U,hR,hk,hX,hr];rfl);obtain⟨LB,F⟩:∃LB,(l.map bv).toArray=LB:=⟨_,rfl⟩;obtain⟨XB,G⟩:∃XB,(X.map bv).toArray=XB:=⟨_,rfl⟩;rw[F] at c6;rw[G] at c8;rw[F,G] at b8;clear m a1 F G hX hr q B a2 K h1 h2
   cases r;all_goals
    go_wp2_with fail
    refine Iq (by kernel_rfl) (by kernel_rfl) ?_;repeat (go_big_quiet_step (fail))
    refine wpQuiet_nil ?_;rintro _ ⟨u,rfl⟩;have Z9:=Z7.below u.ok Z7.lt;have B9:=Y.trans (u.ok.mono Y.size);have b2:=H8.below u.ok H8.lt;have c9:=b2.ld;clear a7
   ·obtain⟨P,Q⟩:=Kz a8.out;go_wp2_with (first
     |(refine Iz rfl _ _ rfl w.1.size rfl Sp.zero Sp.zero rfl Z9 ?_;intro w9 H9 f T9)
     |fail)
    refine bodyPost_ret (Oy Tryz.results221 rfl (Qag H9)) rfl ?_;rw[P,Q];exact⟨rfl,B9.trans (f _ (Nat.le_refl _))⟩
   ·obtain⟨P,Q⟩:=Qnb a8.out;go_wp2_with (first
     |(refine Iz rfl _ _ rfl w.1.size rfl R Sp.zero rfl Z9 ?_;intro w9 H9 f T9)
     |fail)
    refine bodyPost_ret (Oy Tryz.results221 rfl (Qag H9)) rfl ?_;rw[P,Q,hR];exact⟨rfl,B9.trans (f _ (Nat.le_refl _))⟩
end
def rfV (l:List UInt8):Vl:=⟨Hl l,decide (gN l 11 1=1),(gN l 12 2:Int),(gN l 14 4:Int)⟩
def Zgb (g:Int)(l:List UInt8)(k:Nat):Sp:=⟨g,(gN l 0 2:Int),(gN l 2 2:Int),(List.range 8).map (λi=>if i<k then rfV (l.drop (4+18*i)) else Vl.zero),by simp⟩
def rfL (l:List UInt8):Sp:=Zgb (Vk l).gen (Gf l) 8
def Vl.fits (v:Vl):Prop:=v.name.size<=10/\(0<=v.root/\v.root<65536)/\(0<=v.next/\v.next<4294967296)
theorem Qgj (X Y Z:List UInt8)(p m:Nat)(d:X.length=p)(e:Y.length=m):gN (X++(Y++Z)) p m=Zo Y:=by
 unfold gN;rw[List.drop_left' d,List.take_left' e]
theorem Qxh (v:Vl)(f:v.fits)(Z:List UInt8):gN (X9 v++Z) 0 1=v.name.size/\Hl (X9 v++Z)=v.name/\(gN (X9 v++Z) 11 1:Int)=Bj v.ro/\(gN (X9 v++Z) 12 2:Int)=v.root/\(gN (X9 v++Z) 14 4:Int)=v.next:=by
 obtain⟨h1,⟨h2,g⟩,e,m⟩:=f;have d:gN (X9 v++Z) 0 1=v.name.size:=by
  unfold X9;have:=Qgj [] (Zw (v.name.size:Int) 1) (Yv v.name++(Zw (Bj v.ro) 1++(Zw v.root 2++Zw v.next 4))++Z) 0 1 rfl (Ye _ _);rw[List.nil_append] at this;rw[List.append_assoc,this];have:=Oc (v.name.size:Int) 1 (by omega) (by omega);omega
 have hd:Bj v.ro=0\/Bj v.ro=1:=by unfold Bj;split<;>simp
 refine⟨d,?_,?_,?_,?_⟩
 ·unfold Hl;rw[d,Nat.min_eq_left h1];have:(X9 v++Z).drop 1=Yv v.name++((Zw (Bj v.ro) 1++(Zw v.root 2++Zw v.next 4))++Z):=by
   unfold X9;rw[List.append_assoc,List.drop_left' (Ye _ _),List.append_assoc]
  rw[this];unfold Yv;rw[List.append_assoc,List.take_left' (by simp)]
 ·have:X9 v++Z=(Zw (v.name.size:Int) 1++Yv v.name)++(Zw (Bj v.ro) 1++((Zw v.root 2++Zw v.next 4)++Z)):=by unfold X9;simp only[List.append_assoc]
  rw[this,Qgj _ _ _ 11 1 (by simp[Ye,Ef _ h1]) (Ye _ _)];exact Oc _ 1 (by omega) (by omega)
 ·have:X9 v++Z=(Zw (v.name.size:Int) 1++(Yv v.name++Zw (Bj v.ro) 1))++(Zw v.root 2++(Zw v.next 4++Z)):=by unfold X9;simp only[List.append_assoc]
  rw[this,Qgj _ _ _ 12 2 (by simp[Ye,Ef _ h1]) (Ye _ _)];exact Oc _ 2 h2 (by omega)
 ·have:X9 v++Z=(Zw (v.name.size:Int) 1++(Yv v.name++(Zw (Bj v.ro) 1++Zw v.root 2)))++(Zw v.next 4++Z):=by unfold X9;simp only[List.append_assoc]
  rw[this,Qgj _ _ _ 14 4 (by simp[Ye,Ef _ h1]) (Ye _ _)];exact Oc _ 4 e (by omega)
theorem Zbh (v:Vl)(q:v.fits)(Z:List UInt8):Hq (X9 v++Z)=v/\rfV (X9 v++Z)=v/\gN (X9 v++Z) 0 1<=10:=by
 obtain⟨u,f,d,g,m⟩:=Qxh v q Z;have e:decide (gN (X9 v++Z) 11 1≠0)=v.ro/\decide (gN (X9 v++Z) 11 1=1)=v.ro:=by
  unfold Bj at d
  cases p:v.ro
  ·rw[p] at d;simp at d;rw[d];decide
  ·rw[p] at d;simp at d;have:gN (X9 v++Z) 11 1=1:=by omega
   rw[this];decide
 refine⟨?_,?_,by rw[u];exact q.1⟩
 ·unfold Hq;rw[f,g,m,e.1]
 ·unfold rfV;rw[f,g,m,e.2]
theorem Qzr {S:Sp}(h:S.may=true):∀j,j<8->(S.at_ j).fits:=λj d=>by
 have g:=(Dp h).1;rcases Dq ((Dp h).2 j d) with e|⟨h1,h2,f⟩
 ·rw[e];exact⟨by show 0<=10;omega,⟨by show (0:Int)<=0;omega,by show (0:Int)<65536;omega⟩,by show (0:Int)<=0;omega,by show (0:Int)<4294967296;omega⟩
 ·exact⟨(Ei h1).2,⟨by omega,by omega⟩,by omega,by omega⟩
theorem Zb1 (S:Sp)(hn:∀j,j<8->(S.at_ j).name.size<=10)(Z:List UInt8){k:Nat}(d:k<8):∃R,(Yb S++Z).drop (4+18*k)=X9 (S.at_ k)++R:=by
 have f:k<S.Zp.length:=by rw[S.len];exact d
 have e:Yb S=Qm S k++(X9 (S.at_ k)++(S.Zp.drop (k+1)).flatMap X9):=by
  unfold Yb Qm;have h:=S.get d;rw[List.getElem?_eq_getElem f] at h;have h2:S.Zp.take 8=S.Zp.take k++(S.at_ k::S.Zp.drop (k+1)):=by
   rw[<-Option.some.inj h,List.getElem_cons_drop,List.take_append_drop,List.take_of_length_le (by rw[S.len];omega)]
  rw[h2,List.flatMap_append,List.flatMap_cons];simp only[List.append_assoc]
 rw[e,List.append_assoc,List.drop_left' (Zj S k (by omega) hn),List.append_assoc];exact⟨_,rfl⟩
theorem Qun (S:Sp)(h:S.may=true)(Z:List UInt8):(gN (Yb S++Z) 0 2:Int)=S.Qa/\(gN (Yb S++Z) 2 2:Int)=S.log:=by
 have f:=(Dp h).1;have e:Yb S++Z=[]++(Zw S.Qa 2++(Zw S.log 2++((S.Zp.take 8).flatMap X9++Z))):=by unfold Yb Qm;simp only[List.append_assoc,List.nil_append]
 have d:Yb S++Z=Zw S.Qa 2++(Zw S.log 2++((S.Zp.take 8).flatMap X9++Z)):=by rw[e,List.nil_append]
 constructor
 ·rw[e,Qgj _ _ _ 0 2 rfl (Ye _ _)];exact Oc _ 2 (by omega) (by omega)
 ·rw[d,Qgj _ _ _ 2 2 (Ye _ _) (Ye _ _)];exact Oc _ 2 (by omega) (by omega)
theorem Zdj {S:Sp}{slot:Int}(h:X8 S slot=true):okB (swB S slot)=true/\Vk (swB S slot)=Bo S slot/\U1 (swB S slot)=S/\rfL (swB S slot)=S/\(∀k,k<8->gN ((Gf (swB S slot)).drop (4+18*k)) 0 1<=10):=by
 have hm:S.may=true:=by unfold X8 at h;rw[Bool.and_eq_true] at h;exact h.1
 have d:=Qrr h;have A:(Yb S).length<=236:=by rw[Du hm];omega
 obtain⟨u,m,D⟩:=Qc1 (Bo S slot) (Yb S) d A;have B:=(Qnh h).2.1;rw[B];have hn:=Dt hm;have p:=Qzr hm;obtain⟨y,z⟩:=Qun S hm (List.replicate (236-(Yb S).length) 0);have q:∀k,k<8->Hq ((Gf (Zl (Bo S slot) (Yb S))).drop (4+18*k))=S.at_ k/\rfV ((Gf (Zl (Bo S slot) (Yb S))).drop (4+18*k))=S.at_ k/\gN ((Gf (Zl (Bo S slot) (Yb S))).drop (4+18*k)) 0 1<=10:=λk d=>by
  rw[m];obtain⟨R,e⟩:=Zb1 S hn (List.replicate (236-(Yb S).length) 0) d;rw[e];exact Zbh _ (p k d) R
 have g:∀f:List UInt8->Vl,(∀k,k<8->f ((Gf (Zl (Bo S slot) (Yb S))).drop (4+18*k))=S.at_ k)->(List.range 8).map (λi=>if i<8 then f ((Gf (Zl (Bo S slot) (Yb S))).drop (4+18*i)) else Vl.zero)=S.Zp:=λf p=>by
  refine List.ext_getElem (by simp[S.len]) λi h1 h2=>?_
  have hi:i<8:=by simpa using h1
  simp only[List.getElem_map,List.getElem_range];rw[if_pos hi,p i hi];have:=S.get hi;rw[List.getElem?_eq_getElem h2] at this;exact (Option.some.inj this).symm
 refine⟨Qml _ _ d A,u,?_,?_,λk d=>(q k d).2.2⟩
 ·refine Sp.ext' ?_ ?_ ?_ ?_
  ·show (Vk (Zl (Bo S slot) (Yb S))).gen=S.gen;rw[u];rfl
  ·show (gN (Gf (Zl (Bo S slot) (Yb S))) 0 2:Int)=S.Qa;rw[m];exact y
  ·show (gN (Gf (Zl (Bo S slot) (Yb S))) 2 2:Int)=S.log;rw[m];exact z
  ·exact g Hq λk d=>(q k d).1
 ·refine Sp.ext' ?_ ?_ ?_ ?_
  ·show (Vk (Zl (Bo S slot) (Yb S))).gen=S.gen;rw[u];rfl
  ·show (gN (Gf (Zl (Bo S slot) (Yb S))) 0 2:Int)=S.Qa;rw[m];exact y
  ·show (gN (Gf (Zl (Bo S slot) (Yb S))) 2 2:Int)=S.log;rw[m];exact z
  ·exact g rfV λk d=>(q k d).2.1
theorem Za0 {l:List UInt8}{slot:Int}(h:Xw l slot=true):okB l=true/\X8 (U1 l) slot=true/\l=swB (U1 l) slot:=by
 unfold Xw at h;rw[Bool.and_eq_true,Bool.and_eq_true] at h;exact⟨h.1,h.2.1,of_decide_eq_true h.2.2⟩
theorem Qsu {S:Sp}{slot:Int}(h:X8 S slot=true):Xw (swB S slot) slot=true/\V5 (swB S slot) slot=S:=by
 obtain⟨h0,_,h2,_⟩:=Zdj h;have d:Xw (swB S slot) slot=true:=by
  unfold Xw;rw[h0,h2,h];simp
 exact⟨d,by rw[(Qnb d).1,h2]⟩
theorem Zaz {l:List UInt8}{slot:Int}:(V5 l slot).gen=0/\Au l slot=3/\Xw l slot=false\/1<=(V5 l slot).gen/\Au l slot=0/\Xw l slot=true:=by
 cases h:Xw l slot
 ·obtain⟨h1,h2⟩:=Kz h;exact .inl ⟨by rw[h1];rfl,h2,rfl⟩
 ·obtain⟨h1,h2⟩:=Qnb h;have d:=(Za0 h).2.1;unfold X8 at d;rw[Bool.and_eq_true] at d;exact .inr ⟨by rw[h1];exact (Dp d.1).1.1,h2,rfl⟩
def snK (a b:List UInt8):Nat:=if Xw a 0=false/\Xw b 1=false then 2 else if (V5 a 0).gen<(V5 b 1).gen then 1 else 0
def snS (a b:List UInt8):Sp:=if snK a b=2 then Sp.zero else if snK a b=1 then V5 b 1 else V5 a 0
def snI (a b:List UInt8):Int:=if snK a b=1 then 1 else 0
def snE (a b:List UInt8):Int:=if snK a b=2 then 27 else 0
theorem Zf1 {a b:List UInt8}(h1:Xw a 0=false)(h2:Xw b 1=false):snS a b=Sp.zero/\snI a b=0/\snE a b=27:=by
 have:snK a b=2:=if_pos ⟨h1,h2⟩;unfold snS snI snE;rw[this];exact⟨rfl,rfl,rfl⟩
theorem Ze5 {a b:List UInt8}(h1:¬(Xw a 0=false/\Xw b 1=false))(h2:(V5 a 0).gen<(V5 b 1).gen):snS a b=V5 b 1/\snI a b=1/\snE a b=0:=by
 have:snK a b=1:=by unfold snK;rw[if_neg h1,if_pos h2]
 unfold snS snI snE;rw[this];exact⟨rfl,rfl,rfl⟩
theorem Ze4 {a b:List UInt8}(h1:¬(Xw a 0=false/\Xw b 1=false))(h2:¬(V5 a 0).gen<(V5 b 1).gen):snS a b=V5 a 0/\snI a b=0/\snE a b=0:=by
 have:snK a b=0:=by unfold snK;rw[if_neg h1,if_neg h2]
 unfold snS snI snE;rw[this];exact⟨rfl,rfl,rfl⟩
section
def Qh (n:Nat)(g:Int):Nat:=2+Qi n*(g % 2).toNat
def Xa (n:Nat)(g:Int)(i:Nat):Hd:=⟨2,((Qh n g+i:Nat):Int),0,0,g⟩
def Zc (C:Ct)(g:Int):List (List UInt8):=(List.range (Qi C.n)).map λi=>Zl (Xa C.n g i) (C.body (i:Int))
def Xk (g:Int):Prop:=1<=g/\g<=1099511627775
theorem q1n {n:Nat}(h1:32<=n)(h2:n<=2048)(g:Int){i:Nat}(hi:i<Qi n):2<=Qh n g/\Qh n g+i<=40/\Qh n g+i<2+2*Qi n/\Qh n g+i<n:=by
 have h0:=Int.emod_nonneg g (show (2:Int)≠0 by omega);have d:=Int.emod_lt_of_pos g (show (0:Int)<2 by omega);have f:Qi n<=18:=by unfold Qi;omega
 have m:2+2*Qi n<=n:=by unfold Qi;omega
 unfold Qh;rcases (show (g % 2).toNat=0\/(g % 2).toNat=1 by omega) with e|e<;>rw[e]<;>omega
theorem Qtm {n:Nat}(h1:32<=n)(h2:n<=2048){g:Int}(d:Xk g){i:Nat}(hi:i<Qi n):(Xa n g i).ok=true:=by
 have:=q1n h1 h2 g hi;refine decide_eq_true ⟨⟨by show (1:Int)<=2;omega,by show (2:Int)<=6;omega⟩,⟨by show (0:Int)<=0;omega,by show (0:Int)<=8;omega⟩,⟨?_,?_⟩,⟨by show (0:Int)<=0;omega,by show (0:Int)<=65535;omega⟩,?_,?_⟩
 ·show (0:Int)<=((Qh n g+i:Nat):Int);omega
 ·show ((Qh n g+i:Nat):Int)<=2047;omega
 ·show 0<=g;exact Int.le_trans (by omega) d.1
 ·exact d.2
def Qa3 (x:List UInt8)(a:Nat)(g:Int):Bool:=Qxy x 2 (a:Int)&&decide ((Vk x).count=0/\(Vk x).level=0/\(Vk x).gen=g)
theorem Qn2 {C:Ct}(h1:32<=C.n)(h2:C.n<=2048){g:Int}(f:Xk g){i:Nat}(hi:i<Qi C.n):Qa3 (Zl (Xa C.n g i) (C.body (i:Int))) (Qh C.n g+i) g=true/\(Zl (Xa C.n g i) (C.body (i:Int))).drop 20=C.body (i:Int):=by
 have e:=Qtm h1 h2 f hi;have d:(C.body (i:Int)).length<=236:=by rw[Ct.Xg hi];exact Nat.le_refl _
 refine⟨?_,?_⟩
 ·unfold Qa3;rw[Qul _ _ e d,(Qc1 _ _ e d).1,Bool.and_eq_true];exact⟨decide_eq_true ⟨rfl,rfl⟩,decide_eq_true ⟨rfl,rfl,rfl⟩⟩
 ·rw[Qnp _ _ d,Ct.Xg hi];simp
def mtS (f:Nat->List UInt8):Sp:=snS (f 0) (f 1)
def mtB (f:Nat->List UInt8)(n:Nat)(g:Int):List (List UInt8):=(List.range (Qi n)).map λi=>(f (Qh n g+i)).drop 20
def mtC (f:Nat->List UInt8)(n:Nat)(g:Int):Ct:=Qcp n (mtB f n g)
open Classical in
noncomputable def mtE (f:Nat->List UInt8) (off:Bool) (n:Nat):Int:=
 if off=true then 4 else if ¬(snE (f 0) (f 1)=0/\(mtS f).Qa=(n:Int)) then 27 else if ¬((∀i,i<Qi n->Qa3 (f (Qh n (mtS f).gen+i)) (Qh n (mtS f).gen+i) (mtS f).gen=true)/\Oj (n:Int) (mtB f n (mtS f).gen)=0) then 5 else 0
theorem Qww {S:Sp}(hm:S.may=true){f:Nat->List UInt8}(h0:f (S.gen % 2).toNat=swB S (S.gen % 2))(h1:(V5 (f ((S.gen+1) % 2).toNat) ((S.gen+1) % 2)).gen<S.gen):mtS f=S/\snE (f 0) (f 1)=0:=by
 have u:=Int.emod_nonneg S.gen (show (2:Int)≠0 by omega);have y:=Int.emod_lt_of_pos S.gen (show (0:Int)<2 by omega);have q:X8 S (S.gen % 2)=true:=by unfold X8;rw[hm,Bool.true_and];exact decide_eq_true ⟨u,by omega⟩
 obtain⟨m,d⟩:=Qsu q;rcases (show S.gen % 2=0\/S.gen % 2=1 by omega) with e|e
 ·have p:(S.gen+1) % 2=1:=by omega
  rw[e] at h0 m d;rw[p] at h1;replace h0:f 0=swB S 0:=h0;replace h1:(V5 (f 1) 1).gen<S.gen:=h1;have h:=Ze4 (a:=f 0) (b:=f 1) (λg=>by rw[h0,m] at g;cases g.1) (by rw[h0,d];omega);exact⟨by unfold mtS;rw[h.1,h0,d],h.2.2⟩
 ·have p:(S.gen+1) % 2=0:=by omega
  rw[e] at h0 m d;rw[p] at h1;replace h0:f 1=swB S 1:=h0;replace h1:(V5 (f 0) 0).gen<S.gen:=h1;have h:=Ze5 (a:=f 0) (b:=f 1) (λg=>by rw[h0,m] at g;cases g.2) (by rw[h0,d];exact h1);exact⟨by unfold mtS;rw[h.1,h0,d],h.2.2⟩
theorem Zcz {S:Sp}(hm:S.may=true){C:Ct}(d:C.ok)(z:C.res)(hn:S.Qa=(C.n:Int)){f:Nat->List UInt8}(h0:f (S.gen % 2).toNat=swB S (S.gen % 2))(h1:(V5 (f ((S.gen+1) % 2).toNat) ((S.gen+1) % 2)).gen<S.gen)
  (h2:∀i,i<Qi C.n->f (Qh C.n S.gen+i)=Zl (Xa C.n S.gen i) (C.body (i:Int))):mtE f false C.n=0/\mtS f=S/\mtC f C.n S.gen=C.commit:=by
 obtain⟨m,y⟩:=Qww hm h0 h1;have p:Xk S.gen:=by
  have:=(Dp hm).1;exact⟨this.1,this.2.1⟩
 have g:mtB f C.n S.gen=C.bodies:=by
  unfold mtB Ct.bodies;refine List.map_congr_left λi hi=>?_
  have e:=List.mem_range.1 hi;rw[h2 i e,(Qn2 d.1.1 d.1.2 p e).2]
 obtain⟨q,u⟩:=Ct.Qq2 d z;refine⟨?_,m,by unfold mtC;rw[g,u]⟩;unfold mtE;rw[m,if_neg (by decide),if_neg (λh=>h ⟨y,hn⟩),if_neg (λh=>h ⟨λi hi=>by rw[h2 i hi];exact (Qn2 d.1.1 d.1.2 p hi).1,by rw[g];exact q⟩)]
def Wq (k:Int)(a:Nat)(m:Nat)(g:Int):Hd:=⟨k,(a:Int),(m:Int),0,g⟩
theorem Dv (slot:Int):Xw (List.replicate 256 0) slot=false:=by
 have h:okB (List.replicate 256 0)=false:=by
  cases e:okB (List.replicate 256 0)
  ·rfl
  ·obtain⟨_,_,d,_⟩:=of_decide_eq_true e;have:(Yo (((List.replicate 256 (0:UInt8)).drop 4).take 11)).ok=false:=by decide
   rw[this] at d
   cases d
 unfold Xw;rw[h,Bool.false_and]
end
def q0n:List UInt8:=List.replicate 256 0
def X4 (_:Nat):List Stp:=[.w 0 q0n,.w 1 q0n,.fl]
def X5 (n:Nat):List Stp:=Ya (Qh n 1) (Zc (Ct.zero n) 1)++[.fl]
def fmtS (n:Nat):Sp:=sp0 1 (n:Int) 0
def fmtC (n:Nat):List Stp:=[.w 1 (swB (fmtS n) 1),.fl]
def Qw (n:Nat):List Stp:=X4 n++(X5 n++fmtC n)
theorem Vq (C:Ct)(g:Int):(Zc C g).length=Qi C.n:=by unfold Zc;simp
theorem E8 (C:Ct)(g:Int){i:Nat}(hi:i<Qi C.n):(Zc C g).getD i []=Zl (Xa C.n g i) (C.body (i:Int)):=by
 unfold Zc;rw[List.getD_eq_getElem?_getD,List.getElem?_map,List.getElem?_range hi];rfl
theorem Ec {C:Ct}(_:32<=C.n)(_:C.n<=2048){g:Int}(_:Xk g){x:List UInt8}(d:x∈Zc C g):x.length=256:=by
 unfold Zc at d;rw[List.mem_map] at d;obtain⟨i,hi,rfl⟩:=d;exact Ut _ _ (by rw[Ct.Xg (List.mem_range.1 hi)];exact Nat.le_refl _)
theorem Vu {n:Nat}(h1:32<=n)(h2:n<=2048):(fmtS n).may=true:=by
 refine Fj ?_ λj f=>?_
 ·unfold Sp.hd fmtS sp0;exact decide_eq_true ⟨by show (1:Int)<=1;omega,by show (1:Int)<=1099511627775;omega,by show (32:Int)<=(n:Int);omega,by show (n:Int)<=2048;omega,by show (0:Int)<=0;omega,by show (0:Int)<=(n:Int)-1;omega⟩
 ·have e:(fmtS n).at_ j=Vl.zero:=by
   unfold Sp.at_ fmtS sp0;rw[List.getD_eq_getElem?_getD,List.getElem?_replicate];split<;>rfl
  have d:Vl.zero.same Vl.zero=true:=by simp[Vl.same]
  unfold Sp.ok1;rw[e,d,Bool.true_or]
theorem He {n:Nat}(h1:32<=n)(h2:n<=2048):∀a∈Qw n,a.ok n:=by
 intro a d;have m:q0n.length=256:=by unfold q0n;rw[List.length_replicate]
 unfold Qw X4 X5 fmtC at d;rw[List.mem_append,List.mem_append,List.mem_append] at d;rcases d with d|(d|d)|d
 ·simp at d;rcases d with rfl|rfl|rfl
  ·exact⟨by omega,m⟩
  ·exact⟨by omega,m⟩
  ·trivial
 ·cases a with
  |w s x=>
   obtain⟨i,hi,q,p⟩:=Aj d;rw[Vq,Ct.Qg] at hi;have:=q1n h1 h2 1 hi;refine⟨by omega,?_⟩;rw[p];have e:i<(Zc (Ct.zero n) 1).length:=by rw[Vq,Ct.Qg];exact hi
   refine Ec (C:=Ct.zero n) (by rw[Ct.Qg];exact h1) (by rw[Ct.Qg];exact h2) (g:=1) ⟨by omega,by omega⟩ ?_;rw[List.getD_eq_getElem?_getD,List.getElem?_eq_getElem e];exact List.getElem_mem e
  |fl=>trivial
 ·simp at d;subst d;trivial
 ·simp at d;rcases d with rfl|rfl
  ·refine⟨by omega,?_⟩;have f:X8 (fmtS n) 1=true:=by unfold X8;rw[Vu h1 h2,Bool.true_and];decide
   unfold swB;rw[if_pos f];exact Ut _ _ (by rw[Du (Vu h1 h2)];omega)
  ·trivial
theorem F6 {n:Nat}:(Qw n).length=Qi n+6:=by
 unfold Qw X4 X5 fmtC;rw[List.length_append,List.length_append,List.length_append,F5,Vq,Ct.Qg];simp;omega
theorem q37 {n:Nat}(h1:32<=n)(h2:n<=2048)(d:Nat->List UInt8):Qp 0 (Qw n) (d 0)=q0n/\Qp 1 (Qw n) (d 1)=swB (fmtS n) 1/\∀i,i<Qi n->Qp (Qh n 1+i) (Qw n) (d (Qh n 1+i))=Zl (Xa n 1 i) ((Ct.zero n).body (i:Int)):=by
 have f:∀s,s<2->spares s (Ya (Qh n 1) (Zc (Ct.zero n) 1)):=λs m=>Dn (.inl (by unfold Qh;omega))
 unfold Qw X4 X5 fmtC;refine⟨?_,?_,λi hi=>?_⟩
 ·rw[q01,q01,q01,Vo (f 0 (by omega))];rfl
 ·rw[q01,q01];rfl
 ·have e:i<(Zc (Ct.zero n) 1).length:=by rw[Vq,Ct.Qg];exact hi
  have h:=q1n h1 h2 1 hi;rw[q01,q01,q01,q35 _ _ _ _ e,E8 _ _ (by rw[Ct.Qg];exact hi),Ct.Qg];exact Vo (s:=Qh n 1+i) (l:=[Stp.w 1 (swB (fmtS n) 1),.fl]) (λt x g=>by simp at g;omega) _
inductive Bk where
 |node (N:Nd)
 |bytes (k:Int) (l:List UInt8)
def Bk.out (b:Bk)(a:Nat)(g:Int):List UInt8:=match b with
 |.node N=>Jw N (a:Int) g
 |.bytes k l=>Zl (Wq k a l.length g) l
def Bk.fine (b:Bk):Prop:=∀(a:Nat) (g:Int),a<=2047->Xk g->(b.out a g).length=256
structure Pl where
 S:Sp
 C:Ct
 L:Nat->Option Bk
structure Pl.ok (P:Pl):Prop where
 c:P.C.ok
 res:P.C.res
 may:P.S.may=true
 sec:P.S.Qa=(P.C.n:Int)
 gen:P.S.gen<1099511627775
 fine:∀a b,P.L a=some b->b.fine
structure Yh (P:Pl)(S0:Sp)(C0:Ct)(f:Nat->List UInt8):Prop where
 may:S0.may=true
 gen:S0.gen=P.S.gen
 sec:S0.Qa=(P.C.n:Int)
 c:C0.ok
 res:C0.res
 n:C0.n=P.C.n
 slot:f (P.S.gen % 2).toNat=swB S0 (P.S.gen % 2)
 other:(V5 (f ((P.S.gen+1) % 2).toNat) ((P.S.gen+1) % 2)).gen<P.S.gen
 area:∀i,i<Qi P.C.n->f (Qh P.C.n P.S.gen+i)=Zl (Xa P.C.n P.S.gen i) (C0.body (i:Int))
structure DM.free (D:DM):Prop where
 on:D.off=false
 J6:D.fused=false
theorem Dx {D:DM}(h:D.free)(m:Nat):D.room m=m:=by
 unfold DM.room;rw[h.on,h.J6];rfl
theorem Eo {D:DM}(h:D.free){l:List Stp}(m:∀a∈l,a.ok D.n):D.Jo l=0/\(D.Qn l).free/\(D.Qn l).n=D.n/\(D.Qn l).steps=D.steps+l.length/\(D.Qn l).mem=D.mem.Xz l:=by
 obtain⟨h1,h2,_,f,d,_,g⟩:=E5 l D m;have e:=Dx h l.length;rw[e,List.take_length] at h1;rw[e] at d;rcases g with⟨_,j2,j3⟩|⟨j1,_,_⟩
 ·exact⟨j2,⟨j3.trans h.on,f.trans h.J6⟩,h2,d,h1⟩
 ·omega
theorem Fb (D:DM)(s:Nat):D.mem.Zd s=D.Zd s:=rfl
theorem Df (D:DM)(s:Nat):D.mem.newest s=D.newest s:=rfl
def Pl.fresh (n:Nat):Pl:=⟨fmtS n,Ct.zero n,λ_=>none⟩
theorem Wu {n:Nat}(h1:32<=n)(h2:n<=2048):(Pl.fresh n).ok:=
 ⟨Ct.J7 h1 h2,Ct.Jp n,Vu h1 h2,by show (n:Int)=((Ct.zero n).n:Int);rw[Ct.Qg],by show (1:Int)<1099511627775;omega,λa b h=>by cases h⟩
structure Sound (D:DM)(P:Pl)(S0:Sp)(C0:Ct):Prop where
 free:D.free
 n:D.n=P.C.n
 Xe:∀s,D.Zd s=[]
 holds:Yh P S0 C0 D.Ze
theorem Ws {D:DM}{n:Nat}(h1:32<=n)(h2:n<=2048)(hn:D.n=n)(h:D.free):D.Jo (Qw n)=0/\Sound (D.Qn (Qw n)) (Pl.fresh n) (fmtS n) (Ct.zero n)/\(D.Qn (Qw n)).steps=D.steps+(Qi n+6):=by
 subst hn;obtain⟨m,p,q,e,f⟩:=Eo h (He h1 h2);rw[F6] at e;have g:∀s,(D.Qn (Qw D.n)).Zd s=[]:=λs=>by
  rw[<-Fb,f];unfold Qw fmtC;rw[Gs,Gs];rfl
 have hd:∀s,(D.Qn (Qw D.n)).Ze s=Qp s (Qw D.n) (D.newest s):=λs=>by
  have u:(D.Qn (Qw D.n)).newest s=(D.Qn (Qw D.n)).Ze s:=by unfold DM.newest;rw[g];rfl
  rw[<-u,<-Df,f,Um];rfl
 obtain⟨y,z,A⟩:=q37 h1 h2 D.newest;refine⟨m,⟨p,q.trans (Ct.Qg _).symm,g,?_⟩,e⟩;refine⟨Vu h1 h2,rfl,by show (D.n:Int)=((Ct.zero D.n).n:Int);rw[Ct.Qg],Ct.J7 h1 h2,Ct.Jp _,rfl,?_,?_,λi hi=>?_⟩
 ·show (D.Qn (Qw D.n)).Ze 1=swB (fmtS D.n) 1;rw[hd,z]
 ·show (V5 ((D.Qn (Qw D.n)).Ze 0) 0).gen<1;rw[hd,y];unfold q0n;rw[(Kz (Dv 0)).1];decide
 ·have d:i<Qi D.n:=by
   have:(Pl.fresh D.n).C.n=D.n:=Ct.Qg _;rwa [this] at hi
  show (D.Qn (Qw D.n)).Ze (Qh (Ct.zero D.n).n 1+i)=Zl (Xa (Ct.zero D.n).n 1 i) _;rw[Ct.Qg,hd,A i d]
theorem Qm8 {D:DM}{P:Pl}{g:Sp}{e:Ct}(m:Sound D P g e):mtE D.newest false D.n=0/\mtS D.newest=g/\mtC D.newest D.n P.S.gen=e.commit:=by
 have H:=m.holds;have d:∀s,D.newest s=D.Ze s:=λs=>by unfold DM.newest;rw[m.Xe];rfl
 have p:=Zcz (S:=g) H.may (C:=e) H.c H.res (by rw[H.n];exact H.sec) (f:=D.newest) (by rw[H.gen,d];exact H.slot) (by rw[H.gen,d];exact H.other)
  (λi hi=>by rw[H.n] at hi ⊢;rw[H.gen,d];exact H.area i hi)
 rw[H.n,H.gen] at p;rw[m.n];exact p
theorem Ct.J8 {C:Ct}{k:Nat}(h:C.pick=some k)(j:Nat)(hj:j<C.n):C.alloc.may j=if j=k then false else C.may j:=by
 obtain⟨h1,h2,f,g,_⟩:=Ct.Zm h;rw[(Ct.Zi h).2.2,Ct.Ju,Ct.Ju,Ct.Z4 (C.Qc k 1),Vx C k 1 j hj];have e:nm (C.put k 1).done j=nm C.done j:=rfl;rw[e];by_cases d:j=k
 ·rw[if_pos d,if_pos d];exact decide_eq_false (by rintro⟨_,m,_⟩;omega)
 ·rw[if_neg d,if_neg d]
theorem Ct.Jh {C:Ct}{k:Nat}(h:C.pick=some k):∀m,m<=C.n->C.alloc.Q8 m+(if k<m then 1 else 0)=C.Q8 m:=by
 obtain⟨h1,h2,p,q,_⟩:=Ct.Zm h;have f:C.may k=true:=by rw[Ct.Ju];exact decide_eq_true ⟨h2,p,q⟩
 intro m;induction m with
 |zero=>intro _;rfl
 |succ m d=>
  intro hm;have d:=d (by omega);rw[Ct.Zr,Ct.Zr,Ct.J8 h m (by omega)];by_cases e:m=k
  ·subst e;rw[if_pos rfl,if_neg (by decide),if_pos (by omega),if_pos f];rw[if_neg (by omega)] at d;omega
  ·rw[if_neg e];by_cases g:k<m
   ·rw[if_pos g] at d;rw[if_pos (show k<m+1 by omega)];omega
   ·rw[if_neg g] at d;rw[if_neg (show ¬k<m+1 by omega)];omega
theorem Ct.Jt {C:Ct}{k:Nat}(h:C.pick=some k):C.alloc.free+1=C.free:=by
 have d:=(Ct.Zm h).1;have:=Ct.Jh h C.n (Nat.le_refl _);rw[if_pos d] at this;unfold Ct.free;rw[C.Ji];exact this
theorem Ct.Z9 {C:Ct}(h:0<C.free):∃k,C.pick=some k:=by
 cases d:C.pick with
 |some k=>exact⟨k,rfl⟩
 |none=>have:=Ct.Z8 d;omega
def Pl.lay (P:Pl)(b:Bk):Pl:=match P.C.pick with
 |some a=>⟨P.S,P.C.alloc,upd P.L a (some b)⟩
 |none=>P
theorem Vw {P:Pl}{a:Nat}(h:P.C.pick=some a)(b:Bk):P.lay b=⟨P.S,P.C.alloc,upd P.L a (some b)⟩:=by unfold Pl.lay;rw[h]
theorem Hf {P:Pl}(h:P.ok){b:Bk}(m:b.fine):(P.lay b).ok:=by
 cases g:P.C.pick with
 |none=>
  have:P.lay b=P:=by unfold Pl.lay;rw[g]
  rw[this];exact h
 |some a=>
  rw[Vw g];refine⟨Ct.Xf h.c,Ct.J9 h.res,h.may,by show P.S.Qa=(P.C.alloc.n:Int);rw[Ct.Ji];exact h.sec,h.gen,λc d f=>?_⟩;replace f:upd P.L a (some b) c=some d:=f;by_cases e:c=a
  ·subst e;rw[Y9] at f;injection f with f;exact f▸m
  ·rw[Y8 _ _ e] at f;exact h.fine c d f
theorem Kq {P:Pl}(b:Bk):(P.lay b).C.n=P.C.n:=by
 unfold Pl.lay;split
 ·exact P.C.Ji
 ·rfl
theorem Ko {P:Pl}(b:Bk):(P.lay b).S=P.S:=by
 unfold Pl.lay;split<;>rfl
theorem Ed {D:DM}{P:Pl}{g:Sp}{f:Ct}(h:Sound D P g f)(b:Bk):Sound D (P.lay b) g f:=by
 have d:=Kq (P:=P) b;have e:=Ko (P:=P) b;refine⟨h.free,h.n.trans d.symm,h.Xe,?_⟩;have H:=h.holds;exact⟨H.may,by rw[e];exact H.gen,by rw[d];exact H.sec,H.c,H.res,by rw[d];exact H.n,by rw[e];exact H.slot,by rw[e];exact H.other,by rw[d,e];exact H.area⟩
theorem F7 {P:Pl}{a:Nat}(h:P.C.pick=some a)(b:Bk)(c:Nat)(d:c<P.C.n):(P.lay b).C.get (c:Int)=if c=a then 1 else P.C.get (c:Int):=by
 rw[Vw h];show P.C.alloc.get (c:Int)=_;rw[(Ct.Zi h).2.2];unfold Ct.get;rw[C_put_n_get d,Vx P.C a 1 c d];by_cases e:c=a
 ·rw[if_pos e,if_pos e]
 ·rw[if_neg e,if_neg e,if_pos (show 0<=(c:Int)/\(c:Int)<(P.C.n:Int) by omega),Int.toNat_natCast]
 where
 C_put_n_get {C:Ct} {k:Nat} {x:Int} {c:Nat} (d:c<C.n):(if 0<=(c:Int)/\(c:Int)<((C.put k x).n:Int) then nm (C.put k x).now (c:Int).toNat else 0)=nm (C.put k x).now c:=by
  rw[C.Qc,if_pos ⟨by omega,by omega⟩,Int.toNat_natCast]
theorem Ar {P:Pl}{a:Nat}(h:P.C.pick=some a)(b:Bk)(c:Nat):(P.lay b).L c=if c=a then some b else P.L c:=by
 rw[Vw h];rfl
section
def Qao (A:Option Addr)(n c:Nat)(a:List UInt8)(B:Option Addr)(m d:Nat)(b:List UInt8)(w:World):Prop:=
  Calls Tryz.prog 154 #[.slice A n c,.slice B m d] w λe f=>e=.returned (.tuple #[.agg (snS a b).vs.toArray,.int .i64 (snI a b),.int .i64 (snE a b)])/\Below w.1.size w f
attribute [local go_sem ↓] Yz Vr Uo Ur Ej
theorem Qeu (A:Option Addr)(n c:Nat)(a:List UInt8)(B:Option Addr)(m d:Nat)(b:List UInt8)(w:World)(ha:Sl w A n c a)(hb:Sl w B m d b)(ht:Tab w):Qao A n c a B m d b w:=by
 unfold Qao;have b0:=Qhr true;have b3:=Qno;have Z1:=SB.new w Sp.zero 120;have Y:Below w.1.size w (w.alloc (.cells Sp.zero.vs.toArray 120)):=Ib;go_enter Tryz.func154,Tryz.ntmps154
 go_wp2_with fail
 generalize w.alloc (.cells Sp.zero.vs.toArray 120)=w1 at Z1 Y ⊢;refine Calls.mono (Ql7 A n c a 0 w1 (ha.below Y) (ht.below Y ht.1)) ?_;rintro e Z ⟨rfl,W⟩;have Z2:=Z1.below W Z1.lt;have B2:=Y.trans (W.mono Y.size);have H2:=SB.new Z Sp.zero 120;have b2:Below Z.1.size Z (Z.alloc (.cells Sp.zero.vs.toArray 120)):=Ib;have y:=Zaz (l:=a) (slot:=0);have O:=Zaz (l:=b) (slot:=1);have K2:=λh1 h2=>Zf1 (a:=a) (b:=b) h1 h2
 have K1:=λh1 h2=>Ze5 (a:=a) (b:=b) h1 h2
 have K0:=λh1 h2=>Ze4 (a:=a) (b:=b) h1 h2
 obtain⟨SA,a1⟩:∃SA,V5 a 0=SA:=⟨_,rfl⟩;obtain⟨K,V⟩:∃K,V5 b 1=K:=⟨_,rfl⟩;rw[a1] at y K1 K0 ⊢;rw[V] at O K1 K0;clear a1;have KK:=Lib.hid (And.intro K2 (And.intro K1 K0));have Ka:=Lib.hid y;have Kb:=Lib.hid O;clear K2 K1 K0 y O;obtain⟨ea,a6⟩:∃ea,Au a 0=ea:=⟨_,rfl⟩;rw[a6];clear a6;go_wp2_with (first
  |(refine Iz rfl _ _ rfl Z.1.size rfl SA Sp.zero rfl H2 ?_;intro w3 H3 a2 T3;have R:=b2.trans (a2 _ (Nat.le_refl _));have B3:=B2.trans (R.mono B2.size);have Z3:=Z2.below R Z2.lt)
  |fail)
 refine Calls.mono (Ql7 B m d b 1 w3 (hb.below B3) (ht.below B3 ht.1)) ?_;rw[V];rintro e I ⟨rfl,M⟩;have G:=H3.below M H3.lt;have Z4:=Z3.below M Z3.lt;have P:=B3.trans (M.mono B3.size);have J:=SB.new I Sp.zero 120;have b4:Below I.1.size I (I.alloc (.cells Sp.zero.vs.toArray 120)):=Ib;obtain⟨eb,a7⟩:∃eb,Au b 1=eb:=⟨_,rfl⟩;rw[a7];clear a7 V H2 b2 a2 T3 R B3 Z3 H3 M Z2 B2 W Z1 Y;obtain⟨fa,E⟩:∃fa,SA.gen=fa:=⟨_,rfl⟩;obtain⟨H,F⟩:∃H,K.gen=H:=⟨_,rfl⟩;have u:=Lib.hid E;have D:=Lib.hid F;obtain⟨bk,a8⟩:∃bk,Z.1.size=bk:=⟨_,rfl⟩;rw[a8] at G ⊢;have b6:w.1.size<I.1.size:=Z4.lt;have b5:bk<I.1.size:=G.lt;rcases Ka.out with y|y
 ·rcases Kb.out with O|O
  ·have g:=KK.out.1 y.2.2 O.2.2;have e1:fa=0:=by rw[<-u.out];exact y.1
   have e2:H=0:=by rw[<-D.out];exact O.1
   subst e1 e2;go_wp2_with (first
    |(refine Iz rfl _ _ rfl I.1.size rfl K Sp.zero rfl J ?_;intro w5 z p T5;have f:=b4.trans (p _ (Nat.le_refl _));have Q:=P.trans (f.mono P.size);have Z5:=Z4.below f Z4.lt;have H6:=G.below f G.lt;have T:=z.c0;have U:=H6.c0;have l5:=z.ld;have l6:=H6.ld;rw[F] at T;rw[E] at U)
    |(refine Iz rfl _ _ rfl w.1.size rfl Sp.zero Sp.zero rfl Z5 ?_;intro w9 H9 q T9)
    |fail)
   refine bodyPost_ret (Lu Tryz.results154 rfl (Qag H9)) rfl ?_;rw[g.1,g.2.1,g.2.2];exact⟨rfl,Q.trans (q _ (Nat.le_refl _))⟩
  ·have e1:fa=0:=by rw[<-u.out];exact y.1
   have e2:1<=H:=by rw[<-D.out];exact O.1
   have g:=KK.out.2.1 (by rw[y.2.2,O.2.2];simp) (by rw[u.out,D.out];omega);subst e1;have e3:¬H=0:=by omega
   have e4:(0:Int)<H:=by omega
   have e5:(H==0)=false:=by simpa using e3
   go_wp2_with (first
    |(refine Iz rfl _ _ rfl I.1.size rfl K Sp.zero rfl J ?_;intro w5 z p T5;have f:=b4.trans (p _ (Nat.le_refl _));have Q:=P.trans (f.mono P.size);have Z5:=Z4.below f Z4.lt;have H6:=G.below f G.lt;have T:=z.c0;have U:=H6.c0;have l5:=z.ld;have l6:=H6.ld;rw[F] at T;rw[E] at U)
    |(refine Iz rfl _ _ rfl w.1.size rfl K Sp.zero rfl Z5 ?_;intro w9 H9 q T9)
    |fail)
   refine bodyPost_ret (Lu Tryz.results154 rfl (Qag H9)) rfl ?_;rw[g.1,g.2.1,g.2.2];exact⟨rfl,Q.trans (q _ (Nat.le_refl _))⟩
 ·have e1:1<=fa:=by rw[<-u.out];exact y.1
  have e3:¬fa=0:=by omega
  have e5:(fa==0)=false:=by simpa using e3
  by_cases X:fa<H
  ·have g:=KK.out.2.1 (by rw[y.2.2];simp) (by rw[u.out,D.out];exact X);have e6:decide (fa<H)=true:=decide_eq_true X;go_wp2_with (first
    |(refine Iz rfl _ _ rfl I.1.size rfl K Sp.zero rfl J ?_;intro w5 z p T5;have f:=b4.trans (p _ (Nat.le_refl _));have Q:=P.trans (f.mono P.size);have Z5:=Z4.below f Z4.lt;have H6:=G.below f G.lt;have T:=z.c0;have U:=H6.c0;have l5:=z.ld;have l6:=H6.ld;rw[F] at T;rw[E] at U)
    |(refine Iz rfl _ _ rfl w.1.size rfl K Sp.zero rfl Z5 ?_;intro w9 H9 q T9)
    |fail)
   refine bodyPost_ret (Lu Tryz.results154 rfl (Qag H9)) rfl ?_;rw[g.1,g.2.1,g.2.2];exact⟨rfl,Q.trans (q _ (Nat.le_refl _))⟩
  ·have g:=KK.out.2.2 (by rw[y.2.2];simp) (by rw[u.out,D.out];omega);have e6:decide (fa<H)=false:=decide_eq_false X;go_wp2_with (first
    |(refine Iz rfl _ _ rfl I.1.size rfl K Sp.zero rfl J ?_;intro w5 z p T5;have f:=b4.trans (p _ (Nat.le_refl _));have Q:=P.trans (f.mono P.size);have Z5:=Z4.below f Z4.lt;have H6:=G.below f G.lt;have T:=z.c0;have U:=H6.c0;have l5:=z.ld;have l6:=H6.ld;rw[F] at T;rw[E] at U)
    |(refine Iz rfl _ _ rfl w.1.size rfl SA Sp.zero rfl Z5 ?_;intro w9 H9 q T9)
    |fail)
   refine bodyPost_ret (Lu Tryz.results154 rfl (Qag H9)) rfl ?_;rw[g.1,g.2.1,g.2.2];exact⟨rfl,Q.trans (q _ (Nat.le_refl _))⟩
end
