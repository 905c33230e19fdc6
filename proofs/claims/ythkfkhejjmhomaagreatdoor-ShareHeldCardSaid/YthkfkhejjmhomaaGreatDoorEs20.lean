/- Superblocks: the code's Read -/
import Derived.Test.YthkfkhejjmhomaaGreatDoorEs14
import Derived.Test.YthkfkhejjmhomaaGreatDoorEs18
import Derived.Test.YthkfkhejjmhomaaGreatDoorEs19
import Derived.Laws.Cover3
namespace Go.Proofs.YthkfkhejjmhomaaGreatDoor
open Go Go.RowKit Go.Proofs
set_option maxHeartbeats 4000000
set_option maxRecDepth 100000
section
def rdL (l:List UInt8):Sp:=rdS (Yf l).gen (Ul l)
def Xf (l:List UInt8)(slot:Int):Bool:=okB l&&(Ye (rdL l) slot&&decide (l=swB (rdL l) slot))
def Gm (l:List UInt8)(slot:Int):Sp:=if Xf l slot=true then rdL l else Sp.zero
def srE (l:List UInt8)(slot:Int):Int:=if Xf l slot=true then 0 else 3
theorem qi7 {l:List UInt8}{slot:Int}(h:Xf l slot=false):Gm l slot=Sp.zero/\srE l slot=3:=by
 unfold Gm srE;rw[h];exact⟨rfl,rfl⟩
theorem qk3 {l:List UInt8}{slot:Int}(h:Xf l slot=true):Gm l slot=rdL l/\srE l slot=0:=by
 unfold Gm srE;rw[if_pos h,if_pos h];exact⟨rfl,rfl⟩
def ldX (p:Value):Sem Value:=Instr.loadAt 288 p
theorem qk4 (p:Value):Instr.loadAt 288 p=ldX p:=rfl
theorem qai {P:Program}(w:World)(a:Addr)(ty:TypeId)(b:List Value)(d:TypeDesc)(p:∀(j:Nat) v,b[j]?=some v->w.cell? (a.add j)=some v)
  (A:P.underlying ty=some d) (hd:d.isRow=true) (m:(P.info? ty).map (·.size)=some b.length) :
  (loadVar ty a).run P w=.ok (.agg b.toArray) w:=by
 have u:(loadCells a b.length).run P w=.ok b.toArray w:=run_loadCells_list (P:=P) w a b p
 cases f:P.info? ty with
 |none=>simp[f] at m
 |some i=>
  have y:i.size=b.length:=by simpa [f] using m
  have e:(isAgg ty).run P w=.ok true w:=by
   unfold isAgg;rw[Sem.run_bind,run_underlying A w]
   cases d<;>simp_all
  simp[loadVar,Sem.run_bind,e,sizeOf,typeInfo,f,y,u]
theorem qp2 {w:World}{b:Addr}{c:Nat}{l:List UInt8}(h:Sl w (some b) 256 c l):(ldX (.pointer (some b))).run Tryz.prog w=.ok (.agg (l.map bv).toArray) w:=by
 have m:=h.len;unfold ldX;simp only[Instr.loadAt,Instr.sureAddr,Sem.run_bind,Sem.run_pure,Result.andThen_ok,qai w b 288 (l.map bv) _ (λj v p=>by
  obtain⟨d,e,_,f⟩:=h.2.2.2 j v p;injection e with e;subst e;exact f) Tryz.underlying288 rfl (by rw[List.length_map,m];kernel_rfl)]
theorem qp3 (b:Option Addr)(c:Nat)(w:World):(Instr.arrayAt 288 (.slice b 256 c)).run Tryz.prog w=.ok (.pointer b) w:=
 run_arrayAt w 288 _ 256 b 256 c Tryz.underlying288 (Nat.le_refl _)
theorem qp4 (b:BinOp)(x y:Operand)(xs ys:Array Value)(w:World):(eqGuard b 288 x y (.agg xs) (.agg ys)).run Tryz.prog w=.ok () w:=
 run_eqGuard_agg w b 288 x y xs ys (by kernel_rfl)
theorem qyp {l:List UInt8}(h:okB l=true):l.length=256:=(of_decide_eq_true h).1
def qfm (A:Option Addr)(n c:Nat)(l:List UInt8)(slot:Int)(w:World):Prop:=
  Calls Tryz.prog 221 #[.slice A n c,.int .i64 slot] w λe b=>e=.returned (.tuple #[.agg (Gm l slot).vs.toArray,.int .i64 (srE l slot)])/\Below w.1.size w b
attribute [local go_sem ↓] q23 q6v q6w q9b qk4
theorem qfn (A:Option Addr)(n c:Nat)(l:List UInt8)(slot:Int)(w:World)(hs:Sl w A n c l)(ht:Tab w):qfm A n c l slot w:=by
 unfold qfm;have c6:=qdq true;have c8:=qjx;have Z1:=SB.new w Sp.zero 120;have Y:Below w.1.size w (w.alloc (.cells Sp.zero.vs.toArray 120)):=Qn;go_enter Tryz.func221,Tryz.ntmps221
 go_wp2_with fail
 generalize w.alloc (.cells Sp.zero.vs.toArray 120)=w1 at Z1 Y ⊢;refine (q6q A n c l w1 (hs.below Y) (ht.below Y ht.1)).mono ?_;rintro e F ⟨A3,n3,c3,rfl,B,K⟩;have Z3:=Z1.below K Z1.lt;have B3:=Y.trans (K.mono Y.size);have HZ:=HB.zero F 198;have T:F.1.size<(F.alloc (.cells #[.int .i64 0,.int .i64 0,.int .i64 0,.int .i64 0,.int .i64 0] 198)).1.size:=by simp
 have b3:Below F.1.size F (F.alloc (.cells #[.int .i64 0,.int .i64 0,.int .i64 0,.int .i64 0,.int .i64 0] 198)):=Qn;obtain⟨o,Z⟩:∃o,okB l=o:=⟨_,rfl⟩
 cases o
 ·obtain⟨U,W⟩:=qi7 (l:=l) (slot:=slot) (by unfold Xf;rw[Z];rfl);have hE:=(qjb Z).2.2;rw[hE];go_wp2_with (first
   |(refine Rl rfl _ _ rfl F.1.size rfl (Yf l) _ rfl HZ T ?_;intro w4 O f T4;have B4:=B3.trans ((b3.trans (f _ (Nat.le_refl _))).mono B3.size);have Z4:=Z3.below (b3.trans (f _ (Nat.le_refl _))) Z3.lt)
   |(refine Ep rfl _ _ rfl w.1.size rfl Sp.zero Sp.zero rfl Z4 ?_;intro w9 G d T9)
   |fail)
  refine bodyPost_ret (q1w Tryz.results221 rfl (q3z G)) rfl ?_;rw[U,W];exact⟨rfl,B4.trans (d _ (Nat.le_refl _))⟩
 ·have hE:=(q7i Z).2.2;rw[hE];have hB:Ul l=l.drop 20:=(q7i Z).2.1;have m:=qyp Z;go_wp2_with (first
   |(refine Rl rfl _ _ rfl F.1.size rfl (Yf l) _ rfl HZ T ?_;intro w4 O f T4;have p:=b3.trans (f _ (Nat.le_refl _));have B4:=B3.trans (p.mono B3.size);have Z4:=Z3.below p Z3.lt;have g4:=O 4 _ rfl)
   |fail)
  have D:=B.sl.below p;clear O f T4 HZ T b3 B Z3 B3 K Z1 Y p;have Q:Sl w4 A3 n3 c3 (Ul l):=D;have a7:n3=236:=by have:=Q.len;rw[hB,List.length_drop,m] at this;omega
  have a8:148<=n3:=by omega
  have a9:n3<=1000:=by omega
  clear a7 D hB;refine (qdr (Yf l).gen A3 n3 c3 (Ul l) w4 Q a8 a9).mono ?_;rintro e w5 ⟨rfl,M⟩;have Z5:=Z4.below M Z4.lt;have B5:=B4.trans (M.mono B4.size);have hf:=qt8 (Yf l).gen (Ul l);have a5:rdS (Yf l).gen (Ul l)=rdL l:=rfl;rw[a5] at hf ⊢;obtain⟨R,hR⟩:∃R,rdL l=R:=⟨_,rfl⟩;rw[hR] at hf ⊢;clear a5 M Q Z4 B4 g4;have H6:=SB.new w5 Sp.zero 120;have b6:Below w5.1.size w5 (w5.alloc (.cells Sp.zero.vs.toArray 120)):=Qn;go_wp2_with (first
   |(refine Ep rfl _ _ rfl w5.1.size rfl R Sp.zero rfl H6 ?_;intro w6 H7 b T7;have H:=b6.trans (b _ (Nat.le_refl _));have B6:=B5.trans (H.mono B5.size);have Z6:=Z5.below H Z5.lt;have a2:=H7.ld)
   |fail)
  clear H6 b6 b T7 H;refine (q7x R slot hf w6 (ht.below B6 ht.1)).mono ?_;rintro e w7 ⟨A7,n7,c7,rfl,E,a1,b⟩;have Z7:=Z6.below b Z6.lt;have B7:=B6.trans (b.mono B6.size);have H8:=H7.below b H7.lt;obtain⟨k,hk⟩:∃k,Ye R slot=k:=⟨_,rfl⟩;have a3:=H8.ld;clear a2 Z6 H7 b B6
  cases k
  ·obtain⟨h1,h2⟩:=qwl hk;obtain⟨U,W⟩:=qi7 (l:=l) (slot:=slot) (by unfold Xf;rw[hR,hk,Bool.false_and,Bool.and_false]);rw[h1];go_wp2_with fail
   refine Ua (by kernel_rfl) (by kernel_rfl) ?_;repeat (go_big_quiet_step (fail))
   refine wpQuiet_nil ?_;rintro _ ⟨u,rfl⟩;have Z9:=Z7.below u.ok Z7.lt;have B9:=B7.trans (u.ok.mono B7.size);go_wp2_with (first
    |(refine Ep rfl _ _ rfl w.1.size rfl Sp.zero Sp.zero rfl Z9 ?_;intro w9 G d T9)
    |fail)
   refine bodyPost_ret (q1w Tryz.results221 rfl (q3z G)) rfl ?_;rw[U,W];exact⟨rfl,B9.trans (d _ (Nat.le_refl _))⟩
  ·obtain⟨h1,h2,_,_⟩:=qjz hk;obtain⟨g7,rfl,rfl,rfl⟩:=a1 hk;rw[h1];have P:=hs.below B7;have b2:n=256:=by have:=P.len;omega
   subst b2;obtain⟨ad,rfl,_⟩:=hs.cell (k:=0) (by omega);have y:=E.sl;obtain⟨X,hX⟩:∃X,swB R slot=X:=⟨_,rfl⟩;rw[hX] at y;have a0:=y.len;obtain⟨r,hr⟩:∃r,decide (l=X)=r:=⟨_,rfl⟩;have b4:∀u:Grown w7,(ldX (.pointer (some ad))).run Tryz.prog u.to=.ok (.agg (l.map bv).toArray) u.to:=λu=>qp2 (P.below u.ok)
   have b5:∀u:Grown w7,(ldX (.pointer (some ⟨g7,0,none⟩))).run Tryz.prog u.to=.ok (.agg (X.map bv).toArray) u.to:=λu=>qp2 (y.below u.ok)
   have b8:=qp3 (some ad) c;have b9:=qp3 (some ⟨g7,0,none⟩) 256;have b0:=qod l X m a0 r hr;have c9:=qp4;have a4:=Lib.hid (show Xf l slot=r by unfold Xf;rw[Z,hR,hk,hX,hr];rfl);obtain⟨LB,I⟩:∃LB,(l.map bv).toArray=LB:=⟨_,rfl⟩;obtain⟨XB,J⟩:∃XB,(X.map bv).toArray=XB:=⟨_,rfl⟩;rw[I] at b4;rw[J] at b5;rw[I,J] at b0;clear m a0 I J hX hr y E a1 P h1 h2
   cases r;all_goals
    go_wp2_with fail
    refine Ua (by kernel_rfl) (by kernel_rfl) ?_;repeat (go_big_quiet_step (fail))
    refine wpQuiet_nil ?_;rintro _ ⟨u,rfl⟩;have Z9:=Z7.below u.ok Z7.lt;have B9:=B7.trans (u.ok.mono B7.size);have a6:=H8.below u.ok H8.lt;have b7:=a6.ld;clear a3
   ·obtain⟨U,W⟩:=qi7 a4.out;go_wp2_with (first
     |(refine Ep rfl _ _ rfl w.1.size rfl Sp.zero Sp.zero rfl Z9 ?_;intro w9 G d T9)
     |fail)
    refine bodyPost_ret (q1w Tryz.results221 rfl (q3z G)) rfl ?_;rw[U,W];exact⟨rfl,B9.trans (d _ (Nat.le_refl _))⟩
   ·obtain⟨U,W⟩:=qk3 a4.out;go_wp2_with (first
     |(refine Ep rfl _ _ rfl w.1.size rfl R Sp.zero rfl Z9 ?_;intro w9 G d T9)
     |fail)
    refine bodyPost_ret (q1w Tryz.results221 rfl (q3z G)) rfl ?_;rw[U,W,hR];exact⟨rfl,B9.trans (d _ (Nat.le_refl _))⟩
end
def rfV (l:List UInt8):Vl:=⟨rdN l,decide (gN l 11 1=1),(gN l 12 2:Int),(gN l 14 4:Int)⟩
def Qc0 (g:Int)(l:List UInt8)(k:Nat):Sp:=⟨g,(gN l 0 2:Int),(gN l 2 2:Int),(List.range 8).map (λi=>if i<k then rfV (l.drop (4+18*i)) else Vl.zero),by simp⟩
def rfL (l:List UInt8):Sp:=Qc0 (Yf l).gen (Ul l) 8
def Vl.fits (v:Vl):Prop:=v.name.size<=10/\(0<=v.root/\v.root<65536)/\(0<=v.next/\v.next<4294967296)
theorem qc7 (X Y Z:List UInt8)(p m:Nat)(b:X.length=p)(d:Y.length=m):gN (X++(Y++Z)) p m=Za Y:=by
 unfold gN;rw[List.drop_left' b,List.take_left' d]
theorem qp5 (v:Vl)(e:v.fits)(Z:List UInt8):gN (Xn v++Z) 0 1=v.name.size/\rdN (Xn v++Z)=v.name/\(gN (Xn v++Z) 11 1:Int)=Ob v.ro/\(gN (Xn v++Z) 12 2:Int)=v.root/\(gN (Xn v++Z) 14 4:Int)=v.next:=by
 obtain⟨h1,⟨h2,f⟩,d,m⟩:=e;have b:gN (Xn v++Z) 0 1=v.name.size:=by
  unfold Xn;have:=qc7 [] (Zc (v.name.size:Int) 1) (Af v.name++(Zc (Ob v.ro) 1++(Zc v.root 2++Zc v.next 4))++Z) 0 1 rfl (Ya _ _);rw[List.nil_append] at this;rw[List.append_assoc,this];have:=Ro (v.name.size:Int) 1 (by omega) (by omega);omega
 have hd:Ob v.ro=0\/Ob v.ro=1:=by unfold Ob;split<;>simp
 refine⟨b,?_,?_,?_,?_⟩
 ·unfold rdN;rw[b,Nat.min_eq_left h1];have:(Xn v++Z).drop 1=Af v.name++((Zc (Ob v.ro) 1++(Zc v.root 2++Zc v.next 4))++Z):=by
   unfold Xn;rw[List.append_assoc,List.drop_left' (Ya _ _),List.append_assoc]
  rw[this];unfold Af;rw[List.append_assoc,List.take_left' (by simp)]
 ·have:Xn v++Z=(Zc (v.name.size:Int) 1++Af v.name)++(Zc (Ob v.ro) 1++((Zc v.root 2++Zc v.next 4)++Z)):=by unfold Xn;simp only[List.append_assoc]
  rw[this,qc7 _ _ _ 11 1 (by simp[Ya,q9a _ h1]) (Ya _ _)];exact Ro _ 1 (by omega) (by omega)
 ·have:Xn v++Z=(Zc (v.name.size:Int) 1++(Af v.name++Zc (Ob v.ro) 1))++(Zc v.root 2++(Zc v.next 4++Z)):=by unfold Xn;simp only[List.append_assoc]
  rw[this,qc7 _ _ _ 12 2 (by simp[Ya,q9a _ h1]) (Ya _ _)];exact Ro _ 2 h2 (by omega)
 ·have:Xn v++Z=(Zc (v.name.size:Int) 1++(Af v.name++(Zc (Ob v.ro) 1++Zc v.root 2)))++(Zc v.next 4++Z):=by unfold Xn;simp only[List.append_assoc]
  rw[this,qc7 _ _ _ 14 4 (by simp[Ya,q9a _ h1]) (Ya _ _)];exact Ro _ 4 d (by omega)
theorem qtl (v:Vl)(u:v.fits)(Z:List UInt8):Iz (Xn v++Z)=v/\rfV (Xn v++Z)=v/\gN (Xn v++Z) 0 1<=10:=by
 obtain⟨y,e,b,f,m⟩:=qp5 v u Z;have d:decide (gN (Xn v++Z) 11 1≠0)=v.ro/\decide (gN (Xn v++Z) 11 1=1)=v.ro:=by
  unfold Ob at b
  cases p:v.ro
  ·rw[p] at b;simp at b;rw[b];decide
  ·rw[p] at b;simp at b;have:gN (Xn v++Z) 11 1=1:=by omega
   rw[this];decide
 refine⟨?_,?_,by rw[y];exact u.1⟩
 ·unfold Iz;rw[e,f,m,d.1]
 ·unfold rfV;rw[e,f,m,d.2]
theorem qtm {S:Sp}(h:S.may=true):∀j,j<8->(S.at_ j).fits:=λj b=>by
 have f:=(q1g h).1;rcases qfa ((q1g h).2 j b) with e|⟨h1,h2,d⟩
 ·rw[e];exact⟨by show 0<=10;omega,⟨by show (0:Int)<=0;omega,by show (0:Int)<65536;omega⟩,by show (0:Int)<=0;omega,by show (0:Int)<4294967296;omega⟩
 ·exact⟨(qjy h1).2,⟨by omega,by omega⟩,by omega,by omega⟩
theorem qwv (S:Sp)(hn:∀j,j<8->(S.at_ j).name.size<=10)(Z:List UInt8){k:Nat}(b:k<8):∃R,(Jb S++Z).drop (4+18*k)=Xn (S.at_ k)++R:=by
 have d:k<S.Jq.length:=by rw[S.len];exact b
 have e:Jb S=Zw S k++(Xn (S.at_ k)++(S.Jq.drop (k+1)).flatMap Xn):=by
  unfold Jb Zw;have h:=S.get b;rw[List.getElem?_eq_getElem d] at h;have h2:S.Jq.take 8=S.Jq.take k++(S.at_ k::S.Jq.drop (k+1)):=by
   rw[<-Option.some.inj h,List.getElem_cons_drop,List.take_append_drop,List.take_of_length_le (by rw[S.len];omega)]
  rw[h2,List.flatMap_append,List.flatMap_cons];simp only[List.append_assoc]
 rw[e,List.append_assoc,List.drop_left' (J6 S k (by omega) hn),List.append_assoc];exact⟨_,rfl⟩
theorem qp6 (S:Sp)(h:S.may=true)(Z:List UInt8):(gN (Jb S++Z) 0 2:Int)=S.Qb/\(gN (Jb S++Z) 2 2:Int)=S.log:=by
 have d:=(q1g h).1;have e:Jb S++Z=[]++(Zc S.Qb 2++(Zc S.log 2++((S.Jq.take 8).flatMap Xn++Z))):=by unfold Jb Zw;simp only[List.append_assoc,List.nil_append]
 have b:Jb S++Z=Zc S.Qb 2++(Zc S.log 2++((S.Jq.take 8).flatMap Xn++Z)):=by rw[e,List.nil_append]
 constructor
 ·rw[e,qc7 _ _ _ 0 2 rfl (Ya _ _)];exact Ro _ 2 (by omega) (by omega)
 ·rw[b,qc7 _ _ _ 2 2 (Ya _ _) (Ya _ _)];exact Ro _ 2 (by omega) (by omega)
theorem qww {S:Sp}{slot:Int}(h:Ye S slot=true):okB (swB S slot)=true/\Yf (swB S slot)=Cm S slot/\rdL (swB S slot)=S/\rfL (swB S slot)=S/\(∀k,k<8->gN ((Ul (swB S slot)).drop (4+18*k)) 0 1<=10):=by
 have hm:S.may=true:=by unfold Ye at h;rw[Bool.and_eq_true] at h;exact h.1
 have b:=qoj h;have E:(Jb S).length<=236:=by rw[qa8 hm];omega
 obtain⟨A,m,G⟩:=q6t (Cm S slot) (Jb S) b E;have F:=(qjz h).2.1;rw[F];have hn:=q6x hm;have p:=qtm hm;obtain⟨B,D⟩:=qp6 S hm (List.replicate (236-(Jb S).length) 0);have y:∀k,k<8->Iz ((Ul (Zt (Cm S slot) (Jb S))).drop (4+18*k))=S.at_ k/\rfV ((Ul (Zt (Cm S slot) (Jb S))).drop (4+18*k))=S.at_ k/\gN ((Ul (Zt (Cm S slot) (Jb S))).drop (4+18*k)) 0 1<=10:=λk b=>by
  rw[m];obtain⟨R,e⟩:=qwv S hn (List.replicate (236-(Jb S).length) 0) b;rw[e];exact qtl _ (p k b) R
 have d:∀f:List UInt8->Vl,(∀k,k<8->f ((Ul (Zt (Cm S slot) (Jb S))).drop (4+18*k))=S.at_ k)->(List.range 8).map (λi=>if i<8 then f ((Ul (Zt (Cm S slot) (Jb S))).drop (4+18*i)) else Vl.zero)=S.Jq:=λf p=>by
  refine List.ext_getElem (by simp[S.len]) λi h1 h2=>?_
  have u:i<8:=by simpa using h1
  simp only[List.getElem_map,List.getElem_range];rw[if_pos u,p i u];have:=S.get u;rw[List.getElem?_eq_getElem h2] at this;exact (Option.some.inj this).symm
 refine⟨qht _ _ b E,A,?_,?_,λk b=>(y k b).2.2⟩
 ·refine Sp.ext' ?_ ?_ ?_ ?_
  ·show (Yf (Zt (Cm S slot) (Jb S))).gen=S.gen;rw[A];rfl
  ·show (gN (Ul (Zt (Cm S slot) (Jb S))) 0 2:Int)=S.Qb;rw[m];exact B
  ·show (gN (Ul (Zt (Cm S slot) (Jb S))) 2 2:Int)=S.log;rw[m];exact D
  ·exact d Iz λk b=>(y k b).1
 ·refine Sp.ext' ?_ ?_ ?_ ?_
  ·show (Yf (Zt (Cm S slot) (Jb S))).gen=S.gen;rw[A];rfl
  ·show (gN (Ul (Zt (Cm S slot) (Jb S))) 0 2:Int)=S.Qb;rw[m];exact B
  ·show (gN (Ul (Zt (Cm S slot) (Jb S))) 2 2:Int)=S.log;rw[m];exact D
  ·exact d rfV λk b=>(y k b).2.1
theorem qtn {l:List UInt8}{slot:Int}(h:Xf l slot=true):okB l=true/\Ye (rdL l) slot=true/\l=swB (rdL l) slot:=by
 unfold Xf at h;rw[Bool.and_eq_true,Bool.and_eq_true] at h;exact⟨h.1,h.2.1,of_decide_eq_true h.2.2⟩
theorem qmc {S:Sp}{slot:Int}(h:Ye S slot=true):Xf (swB S slot) slot=true/\Gm (swB S slot) slot=S:=by
 obtain⟨h0,_,h2,_⟩:=qww h;have b:Xf (swB S slot) slot=true:=by
  unfold Xf;rw[h0,h2,h];simp
 exact⟨b,by rw[(qk3 b).1,h2]⟩
theorem qw1 {l:List UInt8}{slot:Int}:(Gm l slot).gen=0/\srE l slot=3/\Xf l slot=false\/1<=(Gm l slot).gen/\srE l slot=0/\Xf l slot=true:=by
 cases h:Xf l slot
 ·obtain⟨h1,h2⟩:=qi7 h;exact .inl ⟨by rw[h1];rfl,h2,rfl⟩
 ·obtain⟨h1,h2⟩:=qk3 h;have b:=(qtn h).2.1;unfold Ye at b;rw[Bool.and_eq_true] at b;exact .inr ⟨by rw[h1];exact (q1g b.1).1.1,h2,rfl⟩
def snK (a b:List UInt8):Nat:=if Xf a 0=false/\Xf b 1=false then 2 else if (Gm a 0).gen<(Gm b 1).gen then 1 else 0
def snS (a b:List UInt8):Sp:=if snK a b=2 then Sp.zero else if snK a b=1 then Gm b 1 else Gm a 0
def snI (a b:List UInt8):Int:=if snK a b=1 then 1 else 0
def Ez (a b:List UInt8):Int:=if snK a b=2 then 27 else 0
theorem Qcp {a b:List UInt8}(h1:Xf a 0=false)(h2:Xf b 1=false):snS a b=Sp.zero/\snI a b=0/\Ez a b=27:=by
 have:snK a b=2:=if_pos ⟨h1,h2⟩;unfold snS snI Ez;rw[this];exact⟨rfl,rfl,rfl⟩
theorem Qb1 {a b:List UInt8}(h1:¬(Xf a 0=false/\Xf b 1=false))(h2:(Gm a 0).gen<(Gm b 1).gen):snS a b=Gm b 1/\snI a b=1/\Ez a b=0:=by
 have:snK a b=1:=by unfold snK;rw[if_neg h1,if_pos h2]
 unfold snS snI Ez;rw[this];exact⟨rfl,rfl,rfl⟩
theorem Qb0 {a b:List UInt8}(h1:¬(Xf a 0=false/\Xf b 1=false))(h2:¬(Gm a 0).gen<(Gm b 1).gen):snS a b=Gm a 0/\snI a b=0/\Ez a b=0:=by
 have:snK a b=0:=by unfold snK;rw[if_neg h1,if_neg h2]
 unfold snS snI Ez;rw[this];exact⟨rfl,rfl,rfl⟩
section
def Qw (n:Nat)(g:Int):Nat:=2+Ql n*(g % 2).toNat
def U4 (n:Nat)(g:Int)(i:Nat):Hd:=⟨2,((Qw n g+i:Nat):Int),0,0,g⟩
def Ko (C:Ct)(g:Int):List (List UInt8):=(List.range (Ql C.n)).map λi=>Zt (U4 C.n g i) (C.body (i:Int))
def G7 (g:Int):Prop:=1<=g/\g<=1099511627775
theorem q6z {n:Nat}(h1:32<=n)(h2:n<=2048)(g:Int){i:Nat}(m:i<Ql n):2<=Qw n g/\Qw n g+i<=40/\Qw n g+i<2+2*Ql n/\Qw n g+i<n:=by
 have h0:=Int.emod_nonneg g (show (2:Int)≠0 by omega);have b:=Int.emod_lt_of_pos g (show (0:Int)<2 by omega);have d:Ql n<=18:=by unfold Ql;omega
 have f:2+2*Ql n<=n:=by unfold Ql;omega
 unfold Qw;rcases (show (g % 2).toNat=0\/(g % 2).toNat=1 by omega) with e|e<;>rw[e]<;>omega
theorem qp7 {n:Nat}(h1:32<=n)(h2:n<=2048){g:Int}(b:G7 g){i:Nat}(d:i<Ql n):(U4 n g i).ok=true:=by
 have:=q6z h1 h2 g d;refine decide_eq_true ⟨⟨by show (1:Int)<=2;omega,by show (2:Int)<=6;omega⟩,⟨by show (0:Int)<=0;omega,by show (0:Int)<=8;omega⟩,⟨?_,?_⟩,⟨by show (0:Int)<=0;omega,by show (0:Int)<=65535;omega⟩,?_,?_⟩
 ·show (0:Int)<=((Qw n g+i:Nat):Int);omega
 ·show ((Qw n g+i:Nat):Int)<=2047;omega
 ·show 0<=g;exact Int.le_trans (by omega) b.1
 ·exact b.2
def Kq (x:List UInt8)(a:Nat)(g:Int):Bool:=Tm x 2 (a:Int)&&decide ((Yf x).count=0/\(Yf x).level=0/\(Yf x).gen=g)
theorem qk5 {C:Ct}(h1:32<=C.n)(h2:C.n<=2048){g:Int}(f:G7 g){i:Nat}(b:i<Ql C.n):Kq (Zt (U4 C.n g i) (C.body (i:Int))) (Qw C.n g+i) g=true/\(Zt (U4 C.n g i) (C.body (i:Int))).drop 20=C.body (i:Int):=by
 have e:=qp7 h1 h2 f b;have d:(C.body (i:Int)).length<=236:=by rw[Ct.Ue b];exact Nat.le_refl _
 refine⟨?_,?_⟩
 ·unfold Kq;rw[qoe _ _ e d,(q6t _ _ e d).1,Bool.and_eq_true];exact⟨decide_eq_true ⟨rfl,rfl⟩,decide_eq_true ⟨rfl,rfl,rfl⟩⟩
 ·rw[qjv _ _ d,Ct.Ue b];simp
def Gp (f:Nat->List UInt8):Sp:=snS (f 0) (f 1)
def mtB (f:Nat->List UInt8)(n:Nat)(g:Int):List (List UInt8):=(List.range (Ql n)).map λi=>(f (Qw n g+i)).drop 20
def Oe (f:Nat->List UInt8)(n:Nat)(g:Int):Ct:=Vr n (mtB f n g)
open Classical in
noncomputable def Em (f:Nat->List UInt8) (off:Bool) (n:Nat):Int:=
 if off=true then 4 else if ¬(Ez (f 0) (f 1)=0/\(Gp f).Qb=(n:Int)) then 27 else if ¬((∀i,i<Ql n->Kq (f (Qw n (Gp f).gen+i)) (Qw n (Gp f).gen+i) (Gp f).gen=true)/\J9 (n:Int) (mtB f n (Gp f).gen)=0) then 5 else 0
theorem qp8 {S:Sp}(hm:S.may=true){f:Nat->List UInt8}(h0:f (S.gen % 2).toNat=swB S (S.gen % 2))(h1:(Gm (f ((S.gen+1) % 2).toNat) ((S.gen+1) % 2)).gen<S.gen):Gp f=S/\Ez (f 0) (f 1)=0:=by
 have A:=Int.emod_nonneg S.gen (show (2:Int)≠0 by omega);have B:=Int.emod_lt_of_pos S.gen (show (0:Int)<2 by omega);have y:Ye S (S.gen % 2)=true:=by unfold Ye;rw[hm,Bool.true_and];exact decide_eq_true ⟨A,by omega⟩
 obtain⟨p,d⟩:=qmc y;rcases (show S.gen % 2=0\/S.gen % 2=1 by omega) with e|e
 ·have u:(S.gen+1) % 2=1:=by omega
  rw[e] at h0 p d;rw[u] at h1;replace h0:f 0=swB S 0:=h0;replace h1:(Gm (f 1) 1).gen<S.gen:=h1;have h:=Qb0 (a:=f 0) (b:=f 1) (λm=>by rw[h0,p] at m;cases m.1) (by rw[h0,d];omega);exact⟨by unfold Gp;rw[h.1,h0,d],h.2.2⟩
 ·have u:(S.gen+1) % 2=0:=by omega
  rw[e] at h0 p d;rw[u] at h1;replace h0:f 1=swB S 1:=h0;replace h1:(Gm (f 0) 0).gen<S.gen:=h1;have h:=Qb1 (a:=f 0) (b:=f 1) (λm=>by rw[h0,p] at m;cases m.2) (by rw[h0,d];exact h1);exact⟨by unfold Gp;rw[h.1,h0,d],h.2.2⟩
theorem qwx {S:Sp}(hm:S.may=true){C:Ct}(b:C.ok)(D:C.res)(hn:S.Qb=(C.n:Int)){f:Nat->List UInt8}(h0:f (S.gen % 2).toNat=swB S (S.gen % 2))(h1:(Gm (f ((S.gen+1) % 2).toNat) ((S.gen+1) % 2)).gen<S.gen)
  (h2:∀i,i<Ql C.n->f (Qw C.n S.gen+i)=Zt (U4 C.n S.gen i) (C.body (i:Int))):Em f false C.n=0/\Gp f=S/\Oe f C.n S.gen=C.commit:=by
 obtain⟨p,B⟩:=qp8 hm h0 h1;have u:G7 S.gen:=by
  have:=(q1g hm).1;exact⟨this.1,this.2.1⟩
 have m:mtB f C.n S.gen=C.bodies:=by
  unfold mtB Ct.bodies;refine List.map_congr_left λi e=>?_
  have d:=List.mem_range.1 e;rw[h2 i d,(qk5 b.1.1 b.1.2 u d).2]
 obtain⟨y,A⟩:=Ct.Md b D;refine⟨?_,p,by unfold Oe;rw[m,A]⟩;unfold Em;rw[p,if_neg (by decide),if_neg (λh=>h ⟨B,hn⟩),if_neg (λh=>h ⟨λi e=>by rw[h2 i e];exact (qk5 b.1.1 b.1.2 u e).1,by rw[m];exact y⟩)]
def Na (k:Int)(a:Nat)(m:Nat)(g:Int):Hd:=⟨k,(a:Int),(m:Int),0,g⟩
theorem qp9 (slot:Int):Xf (List.replicate 256 0) slot=false:=by
 have h:okB (List.replicate 256 0)=false:=by
  cases d:okB (List.replicate 256 0)
  ·rfl
  ·obtain⟨_,_,b,_⟩:=of_decide_eq_true d;have:(Gu (((List.replicate 256 (0:UInt8)).drop 4).take 11)).ok=false:=by decide
   rw[this] at b
   cases b
 unfold Xf;rw[h,Bool.false_and]
end
def Du:List UInt8:=List.replicate 256 0
def Va (_:Nat):List Stp:=[.w 0 Du,.w 1 Du,.fl]
def Tn (n:Nat):List Stp:=Fh (Qw n 1) (Ko (Ct.zero n) 1)++[.fl]
def fmtS (n:Nat):Sp:=sp0 1 (n:Int) 0
def fmtC (n:Nat):List Stp:=[.w 1 (swB (fmtS n) 1),.fl]
def Xq (n:Nat):List Stp:=Va n++(Tn n++fmtC n)
theorem q3h (C:Ct)(g:Int):(Ko C g).length=Ql C.n:=by unfold Ko;simp
theorem qk6 (C:Ct)(g:Int){i:Nat}(b:i<Ql C.n):(Ko C g).getD i []=Zt (U4 C.n g i) (C.body (i:Int)):=by
 unfold Ko;rw[List.getD_eq_getElem?_getD,List.getElem?_map,List.getElem?_range b];rfl
theorem qpa {C:Ct}(_:32<=C.n)(_:C.n<=2048){g:Int}(_:G7 g){x:List UInt8}(b:x∈Ko C g):x.length=256:=by
 unfold Ko at b;rw[List.mem_map] at b;obtain⟨i,d,rfl⟩:=b;exact q9w _ _ (by rw[Ct.Ue (List.mem_range.1 d)];exact Nat.le_refl _)
theorem q5i {n:Nat}(h1:32<=n)(h2:n<=2048):(fmtS n).may=true:=by
 refine qof ?_ λj d=>?_
 ·unfold Sp.hd fmtS sp0;exact decide_eq_true ⟨by show (1:Int)<=1;omega,by show (1:Int)<=1099511627775;omega,by show (32:Int)<=(n:Int);omega,by show (n:Int)<=2048;omega,by show (0:Int)<=0;omega,by show (0:Int)<=(n:Int)-1;omega⟩
 ·have e:(fmtS n).at_ j=Vl.zero:=by
   unfold Sp.at_ fmtS sp0;rw[List.getD_eq_getElem?_getD,List.getElem?_replicate];split<;>rfl
  have b:Vl.zero.same Vl.zero=true:=by simp[Vl.same]
  unfold Sp.ok1;rw[e,b,Bool.true_or]
theorem qyq {n:Nat}(h1:32<=n)(h2:n<=2048):∀a∈Xq n,a.ok n:=by
 intro a b;have m:Du.length=256:=by unfold Du;rw[List.length_replicate]
 unfold Xq Va Tn fmtC at b;rw[List.mem_append,List.mem_append,List.mem_append] at b;rcases b with b|(b|b)|b
 ·simp at b;rcases b with rfl|rfl|rfl
  ·exact⟨by omega,m⟩
  ·exact⟨by omega,m⟩
  ·trivial
 ·cases a with
  |w s x=>
   obtain⟨i,e,u,p⟩:=qox b;rw[q3h,Ct.Zi] at e;have:=q6z h1 h2 1 e;refine⟨by omega,?_⟩;rw[p];have d:i<(Ko (Ct.zero n) 1).length:=by rw[q3h,Ct.Zi];exact e
   refine qpa (C:=Ct.zero n) (by rw[Ct.Zi];exact h1) (by rw[Ct.Zi];exact h2) (g:=1) ⟨by omega,by omega⟩ ?_;rw[List.getD_eq_getElem?_getD,List.getElem?_eq_getElem d];exact List.getElem_mem d
  |fl=>trivial
 ·simp at b;subst b;trivial
 ·simp at b;rcases b with rfl|rfl
  ·refine⟨by omega,?_⟩;have f:Ye (fmtS n) 1=true:=by unfold Ye;rw[q5i h1 h2,Bool.true_and];decide
   unfold swB;rw[if_pos f];exact q9w _ _ (by rw[qa8 (q5i h1 h2)];omega)
  ·trivial
theorem qpb {n:Nat}:(Xq n).length=Ql n+6:=by
 unfold Xq Va Tn fmtC;rw[List.length_append,List.length_append,List.length_append,qi4,q3h,Ct.Zi];simp;omega
theorem qpc {n:Nat}(h1:32<=n)(h2:n<=2048)(d:Nat->List UInt8):Y3 0 (Xq n) (d 0)=Du/\Y3 1 (Xq n) (d 1)=swB (fmtS n) 1/\∀i,i<Ql n->Y3 (Qw n 1+i) (Xq n) (d (Qw n 1+i))=Zt (U4 n 1 i) ((Ct.zero n).body (i:Int)):=by
 have f:∀s,s<2->spares s (Fh (Qw n 1) (Ko (Ct.zero n) 1)):=λs p=>qm9 (.inl (by unfold Qw;omega))
 unfold Xq Va Tn fmtC;refine⟨?_,?_,λi b=>?_⟩
 ·rw[q0r,q0r,q0r,q35 (f 0 (by omega))];rfl
 ·rw[q0r,q0r];rfl
 ·have e:i<(Ko (Ct.zero n) 1).length:=by rw[q3h,Ct.Zi];exact b
  have h:=q6z h1 h2 1 b;rw[q0r,q0r,q0r,qoy _ _ _ _ e,qk6 _ _ (by rw[Ct.Zi];exact b),Ct.Zi];exact q35 (s:=Qw n 1+i) (l:=[Stp.w 1 (swB (fmtS n) 1),.fl]) (λt x m=>by simp at m;omega) _
inductive Bk where
 |node (N:Nd)
 |bytes (k:Int) (l:List UInt8)
def Bk.out (b:Bk)(a:Nat)(g:Int):List UInt8:=match b with
 |.node N=>Jr N (a:Int) g
 |.bytes k l=>Zt (Na k a l.length g) l
def Bk.fine (b:Bk):Prop:=∀(a:Nat) (g:Int),a<=2047->G7 g->(b.out a g).length=256
structure Pl where
 S:Sp
 C:Ct
 L:Nat->Option Bk
def Pl.g (P:Pl):Int:=P.S.gen+1
structure Pl.ok (P:Pl):Prop where
 c:P.C.ok
 res:P.C.res
 may:P.S.may=true
 sec:P.S.Qb=(P.C.n:Int)
 gen:P.S.gen<1099511627775
 fine:∀a b,P.L a=some b->b.fine
structure Qbi (P:Pl)(S0:Sp)(C0:Ct)(f:Nat->List UInt8):Prop where
 may:S0.may=true
 gen:S0.gen=P.S.gen
 sec:S0.Qb=(P.C.n:Int)
 c:C0.ok
 res:C0.res
 n:C0.n=P.C.n
 slot:f (P.S.gen % 2).toNat=swB S0 (P.S.gen % 2)
 other:(Gm (f ((P.S.gen+1) % 2).toNat) ((P.S.gen+1) % 2)).gen<P.S.gen
 area:∀i,i<Ql P.C.n->f (Qw P.C.n P.S.gen+i)=Zt (U4 P.C.n P.S.gen i) (C0.body (i:Int))
structure DM.free (D:DM):Prop where
 on:D.off=false
 Oo:D.fused=false
theorem qpd {D:DM}(h:D.free)(m:Nat):D.room m=m:=by
 unfold DM.room;rw[h.on,h.Oo];rfl
theorem qto {D:DM}(h:D.free){l:List Stp}(m:∀a∈l,a.ok D.n):D.Jj l=0/\(D.Qx l).free/\(D.Qx l).n=D.n/\(D.Qx l).steps=D.steps+l.length/\(D.Qx l).mem=D.mem.gos l:=by
 obtain⟨h1,h2,_,e,b,_,f⟩:=qth l D m;have d:=qpd h l.length;rw[d,List.take_length] at h1;rw[d] at b;rcases f with⟨_,j2,j3⟩|⟨j1,_,_⟩
 ·exact⟨j2,⟨j3.trans h.on,e.trans h.Oo⟩,h2,b,h1⟩
 ·omega
theorem qwy (D:DM)(s:Nat):D.mem.Zu s=D.Zu s:=rfl
theorem qmd (D:DM)(s:Nat):D.mem.newest s=D.newest s:=rfl
def Pl.fresh (n:Nat):Pl:=⟨fmtS n,Ct.zero n,λ_=>none⟩
theorem qtp {n:Nat}(h1:32<=n)(h2:n<=2048):(Pl.fresh n).ok:=
 ⟨Ct.Aj h1 h2,Ct.Io n,q5i h1 h2,by show (n:Int)=((Ct.zero n).n:Int);rw[Ct.Zi],by show (1:Int)<1099511627775;omega,λa b h=>by cases h⟩
structure Sound (D:DM)(P:Pl)(S0:Sp)(C0:Ct):Prop where
 free:D.free
 n:D.n=P.C.n
 Uj:∀s,D.Zu s=[]
 holds:Qbi P S0 C0 D.Xk
theorem qk7 {D:DM}{n:Nat}(h1:32<=n)(h2:n<=2048)(hn:D.n=n)(h:D.free):D.Jj (Xq n)=0/\Sound (D.Qx (Xq n)) (Pl.fresh n) (fmtS n) (Ct.zero n)/\(D.Qx (Xq n)).steps=D.steps+(Ql n+6):=by
 subst hn;obtain⟨m,p,u,d,e⟩:=qto h (qyq h1 h2);rw[qpb] at d;have f:∀s,(D.Qx (Xq D.n)).Zu s=[]:=λs=>by
  rw[<-qwy,e];unfold Xq fmtC;rw[qc4,qc4];rfl
 have hd:∀s,(D.Qx (Xq D.n)).Xk s=Y3 s (Xq D.n) (D.newest s):=λs=>by
  have y:(D.Qx (Xq D.n)).newest s=(D.Qx (Xq D.n)).Xk s:=by unfold DM.newest;rw[f];rfl
  rw[<-y,<-qmd,e,q7z];rfl
 obtain⟨B,E,F⟩:=qpc h1 h2 D.newest;refine⟨m,⟨p,u.trans (Ct.Zi _).symm,f,?_⟩,d⟩;refine⟨q5i h1 h2,rfl,by show (D.n:Int)=((Ct.zero D.n).n:Int);rw[Ct.Zi],Ct.Aj h1 h2,Ct.Io _,rfl,?_,?_,λi A=>?_⟩
 ·show (D.Qx (Xq D.n)).Xk 1=swB (fmtS D.n) 1;rw[hd,E]
 ·show (Gm ((D.Qx (Xq D.n)).Xk 0) 0).gen<1;rw[hd,B];unfold Du;rw[(qi7 (qp9 0)).1];decide
 ·have b:i<Ql D.n:=by
   have:(Pl.fresh D.n).C.n=D.n:=Ct.Zi _;rwa [this] at A
  show (D.Qx (Xq D.n)).Xk (Qw (Ct.zero D.n).n 1+i)=Zt (U4 (Ct.zero D.n).n 1 i) _;rw[Ct.Zi,hd,F i b]
theorem qfo {D:DM}{P:Pl}{e:Sp}{d:Ct}(m:Sound D P e d):Em D.newest false D.n=0/\Gp D.newest=e/\Oe D.newest D.n P.S.gen=d.commit:=by
 have H:=m.holds;have b:∀s,D.newest s=D.Xk s:=λs=>by unfold DM.newest;rw[m.Uj];rfl
 have p:=qwx (S:=e) H.may (C:=d) H.c H.res (by rw[H.n];exact H.sec) (f:=D.newest) (by rw[H.gen,b];exact H.slot) (by rw[H.gen,b];exact H.other)
  (λi u=>by rw[H.n] at u ⊢;rw[H.gen,b];exact H.area i u)
 rw[H.n,H.gen] at p;rw[m.n];exact p
theorem Ct.Ou {C:Ct}{k:Nat}(h:C.pick=some k)(j:Nat)(hj:j<C.n):C.alloc.may j=if j=k then false else C.may j:=by
 obtain⟨h1,h2,d,f,_⟩:=Ct.J4 h;rw[(Ct.Jh h).2.2,Ct.Nc,Ct.Nc,Ct.Bc (C.Zf k 1),q4t C k 1 j hj];have e:nm (C.put k 1).done j=nm C.done j:=rfl;rw[e];by_cases b:j=k
 ·rw[if_pos b,if_pos b];exact decide_eq_false (by rintro⟨_,m,_⟩;omega)
 ·rw[if_neg b,if_neg b]
theorem Ct.Ec {C:Ct}{k:Nat}(h:C.pick=some k):∀m,m<=C.n->C.alloc.J3 m+(if k<m then 1 else 0)=C.J3 m:=by
 obtain⟨h1,h2,p,u,_⟩:=Ct.J4 h;have d:C.may k=true:=by rw[Ct.Nc];exact decide_eq_true ⟨h2,p,u⟩
 intro m;induction m with
 |zero=>intro _;rfl
 |succ m b=>
  intro hm;have b:=b (by omega);rw[Ct.Uf,Ct.Uf,Ct.Ou h m (by omega)];by_cases e:m=k
  ·subst e;rw[if_pos rfl,if_neg (by decide),if_pos (by omega),if_pos d];rw[if_neg (by omega)] at b;omega
  ·rw[if_neg e];by_cases f:k<m
   ·rw[if_pos f] at b;rw[if_pos (show k<m+1 by omega)];omega
   ·rw[if_neg f] at b;rw[if_neg (show ¬k<m+1 by omega)];omega
theorem Ct.U3 {C:Ct}{k:Nat}(h:C.pick=some k):C.alloc.free+1=C.free:=by
 have b:=(Ct.J4 h).1;have:=Ct.Ec h C.n (Nat.le_refl _);rw[if_pos b] at this;unfold Ct.free;rw[C.Ee];exact this
theorem Ct.Bl {C:Ct}(h:0<C.free):∃k,C.pick=some k:=by
 cases b:C.pick with
 |some k=>exact⟨k,rfl⟩
 |none=>have:=Ct.X0 b;omega
def Pl.lay (P:Pl)(b:Bk):Pl:=match P.C.pick with
 |some a=>⟨P.S,P.C.alloc,upd P.L a (some b)⟩
 |none=>P
theorem q2n {P:Pl}{a:Nat}(h:P.C.pick=some a)(b:Bk):P.lay b=⟨P.S,P.C.alloc,upd P.L a (some b)⟩:=by unfold Pl.lay;rw[h]
theorem qk8 {P:Pl}(h:P.ok){b:Bk}(p:b.fine):(P.lay b).ok:=by
 cases m:P.C.pick with
 |none=>
  have:P.lay b=P:=by unfold Pl.lay;rw[m]
  rw[this];exact h
 |some a=>
  rw[q2n m];refine⟨Ct.Sv h.c,Ct.Ov h.res,h.may,by show P.S.Qb=(P.C.alloc.n:Int);rw[Ct.Ee];exact h.sec,h.gen,λc d f=>?_⟩;replace f:upd P.L a (some b) c=some d:=f;by_cases e:c=a
  ·subst e;rw[q0n] at f;injection f with f;exact f▸p
  ·rw[Ag _ _ e] at f;exact h.fine c d f
theorem qme {P:Pl}(b:Bk):(P.lay b).C.n=P.C.n:=by
 unfold Pl.lay;split
 ·exact P.C.Ee
 ·rfl
theorem qtq {P:Pl}(b:Bk):(P.lay b).S=P.S:=by
 unfold Pl.lay;split<;>rfl
theorem qfp {D:DM}{P:Pl}{m:Sp}{f:Ct}(h:Sound D P m f)(b:Bk):Sound D (P.lay b) m f:=by
 have d:=qme (P:=P) b;have e:=qtq (P:=P) b;refine⟨h.free,h.n.trans d.symm,h.Uj,?_⟩;have H:=h.holds;exact⟨H.may,by rw[e];exact H.gen,by rw[d];exact H.sec,H.c,H.res,by rw[d];exact H.n,by rw[e];exact H.slot,by rw[e];exact H.other,by rw[d,e];exact H.area⟩
theorem qdx {P:Pl}{a:Nat}(h:P.C.pick=some a)(b:Bk)(c:Nat)(d:c<P.C.n):(P.lay b).C.get (c:Int)=if c=a then 1 else P.C.get (c:Int):=by
 rw[q2n h];show P.C.alloc.get (c:Int)=_;rw[(Ct.Jh h).2.2];unfold Ct.get;rw[C_put_n_get d,q4t P.C a 1 c d];by_cases e:c=a
 ·rw[if_pos e,if_pos e]
 ·rw[if_neg e,if_neg e,if_pos (show 0<=(c:Int)/\(c:Int)<(P.C.n:Int) by omega),Int.toNat_natCast]
 where
 C_put_n_get {C:Ct} {k:Nat} {x:Int} {c:Nat} (d:c<C.n):(if 0<=(c:Int)/\(c:Int)<((C.put k x).n:Int) then nm (C.put k x).now (c:Int).toNat else 0)=nm (C.put k x).now c:=by
  rw[C.Zf,if_pos ⟨by omega,by omega⟩,Int.toNat_natCast]
theorem qfq {P:Pl}{a:Nat}(h:P.C.pick=some a)(b:Bk)(c:Nat):(P.lay b).L c=if c=a then some b else P.L c:=by
 rw[q2n h];rfl
section
def q3i (A:Option Addr)(n c:Nat)(a:List UInt8)(B:Option Addr)(m d:Nat)(b:List UInt8)(w:World):Prop:=
  Calls Tryz.prog 154 #[.slice A n c,.slice B m d] w λe f=>e=.returned (.tuple #[.agg (snS a b).vs.toArray,.int .i64 (snI a b),.int .i64 (Ez a b)])/\Below w.1.size w f
attribute [local go_sem ↓] q23 q6v q6w q9b qk4
theorem q82 (A:Option Addr)(n c:Nat)(a:List UInt8)(B:Option Addr)(m d:Nat)(b:List UInt8)(w:World)(ha:Sl w A n c a)(hb:Sl w B m d b)(ht:Tab w):q3i A n c a B m d b w:=by
 unfold q3i;have a9:=qdq true;have b0:=qjx;have Z1:=SB.new w Sp.zero 120;have b1:Below w.1.size w (w.alloc (.cells Sp.zero.vs.toArray 120)):=Qn;go_enter Tryz.func154,Tryz.ntmps154
 go_wp2_with fail
 generalize w.alloc (.cells Sp.zero.vs.toArray 120)=w1 at Z1 b1 ⊢;refine Calls.mono (qfn A n c a 0 w1 (ha.below b1) (ht.below b1 ht.1)) ?_;rintro e w2 ⟨rfl,a2⟩;have Z2:=Z1.below a2 Z1.lt;have B2:=b1.trans (a2.mono b1.size);have H2:=SB.new w2 Sp.zero 120;have b2:Below w2.1.size w2 (w2.alloc (.cells Sp.zero.vs.toArray 120)):=Qn;have E:=qw1 (l:=a) (slot:=0);have W:=qw1 (l:=b) (slot:=1);have K2:=λh1 h2=>Qcp (a:=a) (b:=b) h1 h2
 have K1:=λh1 h2=>Qb1 (a:=a) (b:=b) h1 h2
 have K0:=λh1 h2=>Qb0 (a:=a) (b:=b) h1 h2
 obtain⟨SA,a4⟩:∃SA,Gm a 0=SA:=⟨_,rfl⟩;obtain⟨R,a1⟩:∃R,Gm b 1=R:=⟨_,rfl⟩;rw[a4] at E K1 K0 ⊢;rw[a1] at W K1 K0;clear a4;have KK:=Lib.hid (And.intro K2 (And.intro K1 K0));have Ka:=Lib.hid E;have Kb:=Lib.hid W;clear K2 K1 K0 E W;obtain⟨ea,a6⟩:∃ea,srE a 0=ea:=⟨_,rfl⟩;rw[a6];clear a6;go_wp2_with (first
  |(refine Ep rfl _ _ rfl w2.1.size rfl SA Sp.zero rfl H2 ?_;intro w3 H3 a5 T3;have a0:=b2.trans (a5 _ (Nat.le_refl _));have B3:=B2.trans (a0.mono B2.size);have Z3:=Z2.below a0 Z2.lt)
  |fail)
 refine Calls.mono (qfn B m d b 1 w3 (hb.below B3) (ht.below B3 ht.1)) ?_;rw[a1];rintro e P ⟨rfl,U⟩;have K:=H3.below U H3.lt;have T:=Z3.below U Z3.lt;have X:=B3.trans (U.mono B3.size);have Q:=SB.new P Sp.zero 120;have b4:Below P.1.size P (P.alloc (.cells Sp.zero.vs.toArray 120)):=Qn;obtain⟨eb,a7⟩:∃eb,srE b 1=eb:=⟨_,rfl⟩;rw[a7];clear a7 a1 H2 b2 a5 T3 a0 B3 Z3 H3 U Z2 B2 a2 Z1 b1;obtain⟨M,I⟩:∃M,SA.gen=M:=⟨_,rfl⟩;obtain⟨O,J⟩:∃O,R.gen=O:=⟨_,rfl⟩;have D:=Lib.hid I;have H:=Lib.hid J;obtain⟨bk,a8⟩:∃bk,w2.1.size=bk:=⟨_,rfl⟩;rw[a8] at K ⊢;have b5:w.1.size<P.1.size:=T.lt;have b3:bk<P.1.size:=K.lt;rcases Ka.out with E|E
 ·rcases Kb.out with W|W
  ·have p:=KK.out.1 E.2.2 W.2.2;have e1:M=0:=by rw[<-D.out];exact E.1
   have e2:O=0:=by rw[<-H.out];exact W.1
   subst e1 e2;go_wp2_with (first
    |(refine Ep rfl _ _ rfl P.1.size rfl R Sp.zero rfl Q ?_;intro w5 F u T5;have f:=b4.trans (u _ (Nat.le_refl _));have Y:=X.trans (f.mono X.size);have Z5:=T.below f T.lt;have G:=K.below f K.lt;have g5:=F.c0;have g6:=G.c0;have l5:=F.ld;have l6:=G.ld;rw[J] at g5;rw[I] at g6)
    |(refine Ep rfl _ _ rfl w.1.size rfl Sp.zero Sp.zero rfl Z5 ?_;intro w9 Z y T9)
    |fail)
   refine bodyPost_ret (q0x Tryz.results154 rfl (q3z Z)) rfl ?_;rw[p.1,p.2.1,p.2.2];exact⟨rfl,Y.trans (y _ (Nat.le_refl _))⟩
  ·have e1:M=0:=by rw[<-D.out];exact E.1
   have e2:1<=O:=by rw[<-H.out];exact W.1
   have p:=KK.out.2.1 (by rw[E.2.2,W.2.2];simp) (by rw[D.out,H.out];omega);subst e1;have e3:¬O=0:=by omega
   have e4:(0:Int)<O:=by omega
   have e5:(O==0)=false:=by simpa using e3
   go_wp2_with (first
    |(refine Ep rfl _ _ rfl P.1.size rfl R Sp.zero rfl Q ?_;intro w5 F u T5;have f:=b4.trans (u _ (Nat.le_refl _));have Y:=X.trans (f.mono X.size);have Z5:=T.below f T.lt;have G:=K.below f K.lt;have g5:=F.c0;have g6:=G.c0;have l5:=F.ld;have l6:=G.ld;rw[J] at g5;rw[I] at g6)
    |(refine Ep rfl _ _ rfl w.1.size rfl R Sp.zero rfl Z5 ?_;intro w9 Z y T9)
    |fail)
   refine bodyPost_ret (q0x Tryz.results154 rfl (q3z Z)) rfl ?_;rw[p.1,p.2.1,p.2.2];exact⟨rfl,Y.trans (y _ (Nat.le_refl _))⟩
 ·have e1:1<=M:=by rw[<-D.out];exact E.1
  have e3:¬M=0:=by omega
  have e5:(M==0)=false:=by simpa using e3
  by_cases a3:M<O
  ·have p:=KK.out.2.1 (by rw[E.2.2];simp) (by rw[D.out,H.out];exact a3);have e6:decide (M<O)=true:=decide_eq_true a3;go_wp2_with (first
    |(refine Ep rfl _ _ rfl P.1.size rfl R Sp.zero rfl Q ?_;intro w5 F u T5;have f:=b4.trans (u _ (Nat.le_refl _));have Y:=X.trans (f.mono X.size);have Z5:=T.below f T.lt;have G:=K.below f K.lt;have g5:=F.c0;have g6:=G.c0;have l5:=F.ld;have l6:=G.ld;rw[J] at g5;rw[I] at g6)
    |(refine Ep rfl _ _ rfl w.1.size rfl R Sp.zero rfl Z5 ?_;intro w9 Z y T9)
    |fail)
   refine bodyPost_ret (q0x Tryz.results154 rfl (q3z Z)) rfl ?_;rw[p.1,p.2.1,p.2.2];exact⟨rfl,Y.trans (y _ (Nat.le_refl _))⟩
  ·have p:=KK.out.2.2 (by rw[E.2.2];simp) (by rw[D.out,H.out];omega);have e6:decide (M<O)=false:=decide_eq_false a3;go_wp2_with (first
    |(refine Ep rfl _ _ rfl P.1.size rfl R Sp.zero rfl Q ?_;intro w5 F u T5;have f:=b4.trans (u _ (Nat.le_refl _));have Y:=X.trans (f.mono X.size);have Z5:=T.below f T.lt;have G:=K.below f K.lt;have g5:=F.c0;have g6:=G.c0;have l5:=F.ld;have l6:=G.ld;rw[J] at g5;rw[I] at g6)
    |(refine Ep rfl _ _ rfl w.1.size rfl SA Sp.zero rfl Z5 ?_;intro w9 Z y T9)
    |fail)
   refine bodyPost_ret (q0x Tryz.results154 rfl (q3z Z)) rfl ?_;rw[p.1,p.2.1,p.2.2];exact⟨rfl,Y.trans (y _ (Nat.le_refl _))⟩
end
