/- Superblocks: the code's Read -/
import Derived.Test.YtloolbmdiimanaaGreatDoorGv12
import Derived.Test.YtloolbmdiimanaaGreatDoorGv16
import Derived.Test.YtloolbmdiimanaaGreatDoorGv18
import Derived.Laws.Cover3
namespace Go.Proofs.YtloolbmdiimanaaGreatDoor
open Go Go.RowKit Go.Proofs Tryz
set_option maxHeartbeats 4000000
set_option maxRecDepth 100000
section
def rdL (l:LU):Sp:=rdS (Xo l).gen (Un l)
def Xg (l:LU)(slot:Int):Bool:=okB l&&(Yk (rdL l) slot&&decide (l=swB (rdL l) slot))
def Gn (l:LU)(slot:Int):Sp:=if Xg l slot=true then rdL l else Sp.zero
def srE (l:LU)(slot:Int):Int:=if Xg l slot=true then 0 else 3
theorem qi1 {l:LU}{slot:Int}(h:Xg l slot=false):Gn l slot=Sp.zero/\srE l slot=3:=by
 unfold Gn srE;rw[h];exact⟨rfl,rfl⟩
theorem qjq {l:LU}{slot:Int}(h:Xg l slot=true):Gn l slot=rdL l/\srE l slot=0:=by
 unfold Gn srE;rw[AA h,AA h];exact⟨rfl,rfl⟩
def ldX (p:Value):Sem Value:=Instr.loadAt 123 p
theorem qjr (p:Value):Instr.loadAt 123 p=ldX p:=rfl
theorem qaa {P:Program}(w:WD)(a:Addr)(ty:TypeId)(e:LV)(d:TypeDesc)(m:∀(j:Nat) v,e[j]?=some v->w.cell? (a.add j)=some v)
  (y:P.underlying ty=some d) (hd:d.isRow=true) (hi:(P.info? ty).map (·.size)=some e.length) :
  (loadVar ty a).run P w=.ok (.agg e.toArray) w:=by
 have p:(loadCells a e.length).run P w=.ok e.toArray w:=run_loadCells_list (P:=P) w a e m
 cases g:P.info? ty with
 |none=>simp[g] at hi
 |some i=>
  have u:i.size=e.length:=by simpa [g] using hi
  have f:(isAgg ty).run P w=.ok true w:=by
   unfold isAgg;rw[Sem.run_bind,run_underlying y w]
   cases d<;>simp_all
  simp[loadVar,Sem.run_bind,f,sizeOf,typeInfo,g,u,p]
theorem qoq {w:WD}{d:Addr}{c:Nat}{l:LU}(h:Sl w (some d) 256 c l):(ldX (.pointer (some d))).run prog w=.ok (.agg (l.map bv).toArray) w:=by
 have m:=h.len;unfold ldX;simp only[Instr.loadAt,Instr.sureAddr,Sem.run_bind,Sem.run_pure,Result.andThen_ok,qaa w d 123 (l.map bv) _ (λj v p=>by
  obtain⟨f,e,_,g⟩:=h.2.2.2 j v p;injection e with e;subst e;exact g) underlying123 rfl (by rw[AF,m];kernel_rfl)]
theorem qor (d:OA)(c:Nat)(w:WD):(Instr.arrayAt 123 (.slice d 256 c)).run prog w=.ok (.pointer d) w:=
 run_arrayAt w 123 _ 256 d 256 c underlying123 (AE _)
theorem qos (d:BinOp)(x y:Operand)(xs e:Array Value)(w:WD):(eqGuard d 123 x y (.agg xs) (.agg e)).run prog w=.ok () w:=
 run_eqGuard_agg w d 123 x y xs e (by kernel_rfl)
theorem qvn {l:LU}(h:okB l=true):l.length=256:=(AK h).1
def qfq (A:OA)(n c:Nat)(l:LU)(slot:Int)(w:WD):Prop:=
  Calls prog 71 #[.slice A n c,.int .i64 slot] w λe d=>e=.returned (.tuple #[.agg (Gn l slot).vs.toArray,.int .i64 (srE l slot)])/\Below w.1.size w d
attribute [local go_sem ↓] q25 q6m q6n q93 qjr
theorem qfr (A:OA)(n c:Nat)(l:LU)(slot:Int)(w:WD)(hs:Sl w A n c l)(ht:Tab w):qfq A n c l slot w:=by
 unfold qfq;have c9:=qdy true;have d0:=qjk;have Z1:=SB.new w Sp.zero 61;have Y:Below w.1.size w (w.alloc (.cells Sp.zero.vs.toArray 61)):=Ql;go_enter func71,ntmps71
 go_wp2_with fail
 generalize w.alloc (.cells Sp.zero.vs.toArray 61)=w1 at Z1 Y ⊢;refine (q5s A n c l w1 (hs.below Y) (ht.below Y ht.1)).mono ?_;rintro e F ⟨A3,n3,c3,rfl,B,K⟩;have Z3:=Z1.below K Z1.lt;have B3:=Y.trans (K.mono Y.size);have HZ:=HB.zero F 94;have T:F.1.size<(F.alloc (.cells #[.int .i64 0,.int .i64 0,.int .i64 0,.int .i64 0,.int .i64 0] 94)).1.size:=by simp
 have b3:Below F.1.size F (F.alloc (.cells #[.int .i64 0,.int .i64 0,.int .i64 0,.int .i64 0,.int .i64 0] 94)):=Ql;obtain⟨o,Z⟩:∃o,okB l=o:=⟨_,rfl⟩
 cases o
 ·obtain⟨U,W⟩:=qi1 (l:=l) (slot:=slot) (by unfold Xg;rw[Z];rfl);have hE:=(qh8 Z).2.2;rw[hE];go_wp2_with (first
   |(refine D5 rfl _ _ rfl F.1.size rfl (Xo l) _ rfl HZ T ?_;intro w4 O g T4;have B4:=B3.trans ((b3.trans (g _ (AE _))).mono B3.size);have Z4:=Z3.below (b3.trans (g _ (AE _))) Z3.lt)
   |(refine Es rfl _ _ rfl w.1.size rfl Sp.zero Sp.zero rfl Z4 ?_;intro w9 G f T9)
   |fail)
  refine bodyPost_ret (q1u Tryz.results71 rfl (q4h G)) rfl ?_;rw[U,W];exact⟨rfl,B4.trans (f _ (AE _))⟩
 ·have hE:=(q5y Z).2.2;rw[hE];have hB:Un l=l.drop 20:=(q5y Z).2.1;have m:=qvn Z;go_wp2_with (first
   |(refine D5 rfl _ _ rfl F.1.size rfl (Xo l) _ rfl HZ T ?_;intro w4 O g T4;have p:=b3.trans (g _ (AE _));have B4:=B3.trans (p.mono B3.size);have Z4:=Z3.below p Z3.lt;have g4:=O 4 _ rfl)
   |fail)
  have D:=B.sl.below p;clear O g T4 HZ T b3 B Z3 B3 K Z1 Y p;have Q:Sl w4 A3 n3 c3 (Un l):=D;have a7:n3=236:=by have:=Q.len;rw[hB,AS,m] at this;omega
  have a8:148<=n3:=by omega
  have a9:n3<=1000:=by omega
  clear a7 D hB;refine (qdz (Xo l).gen A3 n3 c3 (Un l) w4 Q a8 a9).mono ?_;rintro e w5 ⟨rfl,M⟩;have Z5:=Z4.below M Z4.lt;have B5:=B4.trans (M.mono B4.size);have hf:=qsv (Xo l).gen (Un l);have a5:rdS (Xo l).gen (Un l)=rdL l:=rfl;rw[a5] at hf ⊢;obtain⟨R,hR⟩:∃R,rdL l=R:=⟨_,rfl⟩;rw[hR] at hf ⊢;clear a5 M Q Z4 B4 g4;have H6:=SB.new w5 Sp.zero 61;have b6:Below w5.1.size w5 (w5.alloc (.cells Sp.zero.vs.toArray 61)):=Ql;go_wp2_with (first
   |(refine Es rfl _ _ rfl w5.1.size rfl R Sp.zero rfl H6 ?_;intro w6 H7 d T7;have H:=b6.trans (d _ (AE _));have B6:=B5.trans (H.mono B5.size);have Z6:=Z5.below H Z5.lt;have a2:=H7.ld)
   |fail)
  clear H6 b6 d T7 H;refine (q7k R slot hf w6 (ht.below B6 ht.1)).mono ?_;rintro e w7 ⟨A7,n7,c7,rfl,E,a1,d⟩;have Z7:=Z6.below d Z6.lt;have B7:=B6.trans (d.mono B6.size);have H8:=H7.below d H7.lt;obtain⟨k,hk⟩:∃k,Yk R slot=k:=⟨_,rfl⟩;have a3:=H8.ld;clear a2 Z6 H7 d B6
  cases k
  ·obtain⟨h1,h2⟩:=qwd hk;obtain⟨U,W⟩:=qi1 (l:=l) (slot:=slot) (by unfold Xg;rw[hR,hk,Bool.false_and,Bool.and_false]);rw[h1];go_wp2_with fail
   refine Ug (by kernel_rfl) (by kernel_rfl) ?_;repeat (go_big_quiet_step (fail))
   refine wpQuiet_nil ?_;rintro _ ⟨u,rfl⟩;have Z9:=Z7.below u.ok Z7.lt;have B9:=B7.trans (u.ok.mono B7.size);go_wp2_with (first
    |(refine Es rfl _ _ rfl w.1.size rfl Sp.zero Sp.zero rfl Z9 ?_;intro w9 G f T9)
    |fail)
   refine bodyPost_ret (q1u Tryz.results71 rfl (q4h G)) rfl ?_;rw[U,W];exact⟨rfl,B9.trans (f _ (AE _))⟩
  ·obtain⟨h1,h2,_,_⟩:=qjm hk;obtain⟨g7,rfl,rfl,rfl⟩:=a1 hk;rw[h1];have P:=hs.below B7;have b2:n=256:=by have:=P.len;omega
   subst b2;obtain⟨ad,rfl,_⟩:=hs.cell (k:=0) (by omega);have y:=E.sl;obtain⟨X,hX⟩:∃X,swB R slot=X:=⟨_,rfl⟩;rw[hX] at y;have a0:=y.len;obtain⟨r,hr⟩:∃r,decide (l=X)=r:=⟨_,rfl⟩;have b4:∀u:Grown w7,(ldX (.pointer (some ad))).run prog u.to=.ok (.agg (l.map bv).toArray) u.to:=λu=>qoq (P.below u.ok)
   have b5:∀u:Grown w7,(ldX (.pointer (some ⟨g7,0,none⟩))).run prog u.to=.ok (.agg (X.map bv).toArray) u.to:=λu=>qoq (y.below u.ok)
   have b8:=qor (some ad) c;have b9:=qor (some ⟨g7,0,none⟩) 256;have b0:=qo3 l X m a0 r hr;have d1:=qos;have a4:=HI (show Xg l slot=r by unfold Xg;rw[Z,hR,hk,hX,hr];rfl);obtain⟨LB,I⟩:∃LB,(l.map bv).toArray=LB:=⟨_,rfl⟩;obtain⟨XB,J⟩:∃XB,(X.map bv).toArray=XB:=⟨_,rfl⟩;rw[I] at b4;rw[J] at b5;rw[I,J] at b0;clear m a0 I J hX hr y E a1 P h1 h2
   cases r;all_goals
    go_wp2_with fail
    refine Ug (by kernel_rfl) (by kernel_rfl) ?_;repeat (go_big_quiet_step (fail))
    refine wpQuiet_nil ?_;rintro _ ⟨u,rfl⟩;have Z9:=Z7.below u.ok Z7.lt;have B9:=B7.trans (u.ok.mono B7.size);have a6:=H8.below u.ok H8.lt;have b7:=a6.ld;clear a3
   ·obtain⟨U,W⟩:=qi1 a4.out;go_wp2_with (first
     |(refine Es rfl _ _ rfl w.1.size rfl Sp.zero Sp.zero rfl Z9 ?_;intro w9 G f T9)
     |fail)
    refine bodyPost_ret (q1u Tryz.results71 rfl (q4h G)) rfl ?_;rw[U,W];exact⟨rfl,B9.trans (f _ (AE _))⟩
   ·obtain⟨U,W⟩:=qjq a4.out;go_wp2_with (first
     |(refine Es rfl _ _ rfl w.1.size rfl R Sp.zero rfl Z9 ?_;intro w9 G f T9)
     |fail)
    refine bodyPost_ret (q1u Tryz.results71 rfl (q4h G)) rfl ?_;rw[U,W,hR];exact⟨rfl,B9.trans (f _ (AE _))⟩
end
def rfV (l:LU):Vl:=⟨rdN l,decide (gN l 11 1=1),(gN l 12 2:Int),(gN l 14 4:Int)⟩
def Qc0 (g:Int)(l:LU)(k:Nat):Sp:=⟨g,(gN l 0 2:Int),(gN l 2 2:Int),(List.range 8).map (λi=>if i<k then rfV (l.drop (4+18*i)) else Vl.zero),by simp⟩
def rfL (l:LU):Sp:=Qc0 (Xo l).gen (Un l) 8
def Vl.fits (v:Vl):Prop:=v.name.size<=10/\(0<=v.root/\v.root<65536)/\(0<=v.next/\v.next<4294967296)
theorem qcc (X Y Z:LU)(p m:Nat)(d:X.length=p)(e:Y.length=m):gN (X++(Y++Z)) p m=Qq Y:=by
 unfold gN;rw[List.drop_left' d,List.take_left' e]
theorem qot (v:Vl)(f:v.fits)(Z:LU):gN (Xp v++Z) 0 1=v.name.size/\rdN (Xp v++Z)=v.name/\(gN (Xp v++Z) 11 1:Int)=Nv v.ro/\(gN (Xp v++Z) 12 2:Int)=v.root/\(gN (Xp v++Z) 14 4:Int)=v.next:=by
 obtain⟨h1,⟨h2,g⟩,e,m⟩:=f;have d:gN (Xp v++Z) 0 1=v.name.size:=by
  unfold Xp;have:=qcc [] (Q8 (v.name.size:Int) 1) (Ai v.name++(Q8 (Nv v.ro) 1++(Q8 v.root 2++Q8 v.next 4))++Z) 0 1 rfl (Xz _ _);rw[BG] at this;rw[AM,this];have:=Rf (v.name.size:Int) 1 (by omega) (by omega);omega
 have hd:Nv v.ro=0\/Nv v.ro=1:=by unfold Nv;split<;>simp
 refine⟨d,?_,?_,?_,?_⟩
 ·unfold rdN;rw[d,Nat.min_eq_left h1];have:(Xp v++Z).drop 1=Ai v.name++((Q8 (Nv v.ro) 1++(Q8 v.root 2++Q8 v.next 4))++Z):=by
   unfold Xp;rw[AM,List.drop_left' (Xz _ _),AM]
  rw[this];unfold Ai;rw[AM,List.take_left' (by simp)]
 ·have:Xp v++Z=(Q8 (v.name.size:Int) 1++Ai v.name)++(Q8 (Nv v.ro) 1++((Q8 v.root 2++Q8 v.next 4)++Z)):=by unfold Xp;simp only[AM]
  rw[this,qcc _ _ _ 11 1 (by simp[Xz,q92 _ h1]) (Xz _ _)];exact Rf _ 1 (by omega) (by omega)
 ·have:Xp v++Z=(Q8 (v.name.size:Int) 1++(Ai v.name++Q8 (Nv v.ro) 1))++(Q8 v.root 2++(Q8 v.next 4++Z)):=by unfold Xp;simp only[AM]
  rw[this,qcc _ _ _ 12 2 (by simp[Xz,q92 _ h1]) (Xz _ _)];exact Rf _ 2 h2 (by omega)
 ·have:Xp v++Z=(Q8 (v.name.size:Int) 1++(Ai v.name++(Q8 (Nv v.ro) 1++Q8 v.root 2)))++(Q8 v.next 4++Z):=by unfold Xp;simp only[AM]
  rw[this,qcc _ _ _ 14 4 (by simp[Xz,q92 _ h1]) (Xz _ _)];exact Rf _ 4 e (by omega)
theorem qt9 (v:Vl)(u:v.fits)(Z:LU):I9 (Xp v++Z)=v/\rfV (Xp v++Z)=v/\gN (Xp v++Z) 0 1<=10:=by
 obtain⟨y,f,d,g,m⟩:=qot v u Z;have e:decide (gN (Xp v++Z) 11 1≠0)=v.ro/\decide (gN (Xp v++Z) 11 1=1)=v.ro:=by
  unfold Nv at d
  cases p:v.ro
  ·rw[p] at d;simp at d;rw[d];decide
  ·rw[p] at d;simp at d;have:gN (Xp v++Z) 11 1=1:=by omega
   rw[this];decide
 refine⟨?_,?_,by rw[y];exact u.1⟩
 ·unfold I9;rw[f,g,m,e.1]
 ·unfold rfV;rw[f,g,m,e.2]
theorem qta {S:Sp}(h:S.may=true):∀j,j<8->(S.at_ j).fits:=λj d=>by
 have g:=(Tq h).1;rcases qfh ((Tq h).2 j d) with e|⟨h1,h2,f⟩
 ·rw[e];exact⟨by show 0<=10;omega,⟨by show (0:Int)<=0;omega,by show (0:Int)<65536;omega⟩,by show (0:Int)<=0;omega,by show (0:Int)<4294967296;omega⟩
 ·exact⟨(qjl h1).2,⟨by omega,by omega⟩,by omega,by omega⟩
theorem qwo (S:Sp)(hn:∀j,j<8->(S.at_ j).name.size<=10)(Z:LU){k:Nat}(d:k<8):∃R,(Zy S++Z).drop (4+18*k)=Xp (S.at_ k)++R:=by
 have f:k<S.Jq.length:=by rw[S.len];exact d
 have e:Zy S=Zq S k++(Xp (S.at_ k)++(S.Jq.drop (k+1)).flatMap Xp):=by
  unfold Zy Zq;have h:=S.get d;rw[AC f] at h;have h2:S.Jq.take 8=S.Jq.take k++(S.at_ k::S.Jq.drop (k+1)):=by
   rw[<-OI h,List.getElem_cons_drop,AV,AN (by rw[S.len];omega)]
  rw[h2,List.flatMap_append,BC];simp only[AM]
 rw[e,AM,List.drop_left' (J6 S k (by omega) hn),AM];exact⟨_,rfl⟩
theorem qou (S:Sp)(h:S.may=true)(Z:LU):(gN (Zy S++Z) 0 2:Int)=S.Qa/\(gN (Zy S++Z) 2 2:Int)=S.log:=by
 have f:=(Tq h).1;have e:Zy S++Z=[]++(Q8 S.Qa 2++(Q8 S.log 2++((S.Jq.take 8).flatMap Xp++Z))):=by unfold Zy Zq;simp only[AM,BG]
 have d:Zy S++Z=Q8 S.Qa 2++(Q8 S.log 2++((S.Jq.take 8).flatMap Xp++Z)):=by rw[e,BG]
 constructor
 ·rw[e,qcc _ _ _ 0 2 rfl (Xz _ _)];exact Rf _ 2 (by omega) (by omega)
 ·rw[d,qcc _ _ _ 2 2 (Xz _ _) (Xz _ _)];exact Rf _ 2 (by omega) (by omega)
theorem qwp {S:Sp}{slot:Int}(h:Yk S slot=true):okB (swB S slot)=true/\Xo (swB S slot)=Df S slot/\rdL (swB S slot)=S/\rfL (swB S slot)=S/\(∀k,k<8->gN ((Un (swB S slot)).drop (4+18*k)) 0 1<=10):=by
 have hm:S.may=true:=by unfold Yk at h;rw[BN] at h;exact h.1
 have d:=qo8 h;have D:(Zy S).length<=236:=by rw[qa2 hm];omega
 obtain⟨y,m,F⟩:=q4i (Df S slot) (Zy S) d D;have E:=(qjm h).2.1;rw[E];have hn:=q6o hm;have p:=qta hm;obtain⟨A,B⟩:=qou S hm (List.replicate (236-(Zy S).length) 0);have u:∀k,k<8->I9 ((Un (Zk (Df S slot) (Zy S))).drop (4+18*k))=S.at_ k/\rfV ((Un (Zk (Df S slot) (Zy S))).drop (4+18*k))=S.at_ k/\gN ((Un (Zk (Df S slot) (Zy S))).drop (4+18*k)) 0 1<=10:=λk d=>by
  rw[m];obtain⟨R,e⟩:=qwo S hn (List.replicate (236-(Zy S).length) 0) d;rw[e];exact qt9 _ (p k d) R
 have g:∀f:LU->Vl,(∀k,k<8->f ((Un (Zk (Df S slot) (Zy S))).drop (4+18*k))=S.at_ k)->(List.range 8).map (λi=>if i<8 then f ((Un (Zk (Df S slot) (Zy S))).drop (4+18*i)) else Vl.zero)=S.Jq:=λf p=>by
  refine List.ext_getElem (by simp[S.len]) λi h1 h2=>?_
  have hi:i<8:=by simpa using h1
  simp only[List.getElem_map,List.getElem_range];rw[AA hi,p i hi];have:=S.get hi;rw[AC h2] at this;exact (OI this).symm
 refine⟨qj8 _ _ d D,y,?_,?_,λk d=>(u k d).2.2⟩
 ·refine Sp.ext' ?_ ?_ ?_ ?_
  ·show (Xo (Zk (Df S slot) (Zy S))).gen=S.gen;rw[y];rfl
  ·show (gN (Un (Zk (Df S slot) (Zy S))) 0 2:Int)=S.Qa;rw[m];exact A
  ·show (gN (Un (Zk (Df S slot) (Zy S))) 2 2:Int)=S.log;rw[m];exact B
  ·exact g I9 λk d=>(u k d).1
 ·refine Sp.ext' ?_ ?_ ?_ ?_
  ·show (Xo (Zk (Df S slot) (Zy S))).gen=S.gen;rw[y];rfl
  ·show (gN (Un (Zk (Df S slot) (Zy S))) 0 2:Int)=S.Qa;rw[m];exact A
  ·show (gN (Un (Zk (Df S slot) (Zy S))) 2 2:Int)=S.log;rw[m];exact B
  ·exact g rfV λk d=>(u k d).2.1
theorem qtb {l:LU}{slot:Int}(h:Xg l slot=true):okB l=true/\Yk (rdL l) slot=true/\l=swB (rdL l) slot:=by
 unfold Xg at h;rw[BN,BN] at h;exact⟨h.1,h.2.1,AK h.2.2⟩
theorem qm4 {S:Sp}{slot:Int}(h:Yk S slot=true):Xg (swB S slot) slot=true/\Gn (swB S slot) slot=S:=by
 obtain⟨h0,_,h2,_⟩:=qwp h;have d:Xg (swB S slot) slot=true:=by
  unfold Xg;rw[h0,h2,h];simp
 exact⟨d,by rw[(qjq d).1,h2]⟩
theorem qvo {l:LU}{slot:Int}:(Gn l slot).gen=0/\srE l slot=3/\Xg l slot=false\/1<=(Gn l slot).gen/\srE l slot=0/\Xg l slot=true:=by
 cases h:Xg l slot
 ·obtain⟨h1,h2⟩:=qi1 h;exact .inl ⟨by rw[h1];rfl,h2,rfl⟩
 ·obtain⟨h1,h2⟩:=qjq h;have d:=(qtb h).2.1;unfold Yk at d;rw[BN] at d;exact .inr ⟨by rw[h1];exact (Tq d.1).1.1,h2,rfl⟩
def snK (a b:LU):Nat:=if Xg a 0=false/\Xg b 1=false then 2 else if (Gn a 0).gen<(Gn b 1).gen then 1 else 0
def snS (a b:LU):Sp:=if snK a b=2 then Sp.zero else if snK a b=1 then Gn b 1 else Gn a 0
def snI (a b:LU):Int:=if snK a b=1 then 1 else 0
def Ey (a b:LU):Int:=if snK a b=2 then 27 else 0
theorem Qcg {a b:LU}(h1:Xg a 0=false)(h2:Xg b 1=false):snS a b=Sp.zero/\snI a b=0/\Ey a b=27:=by
 have:snK a b=2:=AA ⟨h1,h2⟩;unfold snS snI Ey;rw[this];exact⟨rfl,rfl,rfl⟩
theorem Qbo {a b:LU}(h1:¬(Xg a 0=false/\Xg b 1=false))(h2:(Gn a 0).gen<(Gn b 1).gen):snS a b=Gn b 1/\snI a b=1/\Ey a b=0:=by
 have:snK a b=1:=by unfold snK;rw[AB h1,AA h2]
 unfold snS snI Ey;rw[this];exact⟨rfl,rfl,rfl⟩
theorem Qbn {a b:LU}(h1:¬(Xg a 0=false/\Xg b 1=false))(h2:¬(Gn a 0).gen<(Gn b 1).gen):snS a b=Gn a 0/\snI a b=0/\Ey a b=0:=by
 have:snK a b=0:=by unfold snK;rw[AB h1,AB h2]
 unfold snS snI Ey;rw[this];exact⟨rfl,rfl,rfl⟩
section
def Qx (n:Nat)(g:Int):Nat:=2+Qj n*(g % 2).toNat
def U5 (n:Nat)(g:Int)(i:Nat):Hd:=⟨2,((Qx n g+i:Nat):Int),0,0,g⟩
def Wy (C:Ct)(g:Int):List (LU):=(List.range (Qj C.n)).map λi=>Zk (U5 C.n g i) (C.body (i:Int))
def Ad (g:Int):Prop:=1<=g/\g<=1099511627775
theorem q6r {n:Nat}(h1:32<=n)(h2:n<=2048)(g:Int){i:Nat}(hi:i<Qj n):2<=Qx n g/\Qx n g+i<=40/\Qx n g+i<2+2*Qj n/\Qx n g+i<n:=by
 have h0:=Int.emod_nonneg g (show (2:Int)≠0 by omega);have d:=Int.emod_lt_of_pos g (show (0:Int)<2 by omega);have f:Qj n<=18:=by unfold Qj;omega
 have m:2+2*Qj n<=n:=by unfold Qj;omega
 unfold Qx;rcases (show (g % 2).toNat=0\/(g % 2).toNat=1 by omega) with e|e<;>rw[e]<;>omega
theorem qov {n:Nat}(h1:32<=n)(h2:n<=2048){g:Int}(d:Ad g){i:Nat}(hi:i<Qj n):(U5 n g i).ok=true:=by
 have:=q6r h1 h2 g hi;refine AL ⟨⟨by show (1:Int)<=2;omega,by show (2:Int)<=6;omega⟩,⟨by show (0:Int)<=0;omega,by show (0:Int)<=8;omega⟩,⟨?_,?_⟩,⟨by show (0:Int)<=0;omega,by show (0:Int)<=65535;omega⟩,?_,?_⟩
 ·show (0:Int)<=((Qx n g+i:Nat):Int);omega
 ·show ((Qx n g+i:Nat):Int)<=2047;omega
 ·show 0<=g;exact Int.le_trans (by omega) d.1
 ·exact d.2
def Ko (x:LU)(a:Nat)(g:Int):Bool:=Vb x 2 (a:Int)&&decide ((Xo x).count=0/\(Xo x).level=0/\(Xo x).gen=g)
theorem qjs {C:Ct}(h1:32<=C.n)(h2:C.n<=2048){g:Int}(f:Ad g){i:Nat}(hi:i<Qj C.n):Ko (Zk (U5 C.n g i) (C.body (i:Int))) (Qx C.n g+i) g=true/\(Zk (U5 C.n g i) (C.body (i:Int))).drop 20=C.body (i:Int):=by
 have e:=qov h1 h2 f hi;have d:(C.body (i:Int)).length<=236:=by rw[Ct.Uk hi];exact AE _
 refine⟨?_,?_⟩
 ·unfold Ko;rw[qhe _ _ e d,(q4i _ _ e d).1,BN];exact⟨AL ⟨rfl,rfl⟩,AL ⟨rfl,rfl,rfl⟩⟩
 ·rw[q9n _ _ d,Ct.Uk hi];simp
def Gq (f:Nat->LU):Sp:=snS (f 0) (f 1)
def Ti (f:Nat->LU)(n:Nat)(g:Int):List (LU):=(List.range (Qj n)).map λi=>(f (Qx n g+i)).drop 20
def Ny (f:Nat->LU)(n:Nat)(g:Int):Ct:=Vy n (Ti f n g)
open Classical in
noncomputable def Eo (f:Nat->LU) (off:Bool) (n:Nat):Int:=
 if off=true then 4 else if ¬(Ey (f 0) (f 1)=0/\(Gq f).Qa=(n:Int)) then 27 else if ¬((∀i,i<Qj n->Ko (f (Qx n (Gq f).gen+i)) (Qx n (Gq f).gen+i) (Gq f).gen=true)/\J8 (n:Int) (Ti f n (Gq f).gen)=0) then 5 else 0
theorem qow {S:Sp}(hm:S.may=true){f:Nat->LU}(h0:f (S.gen % 2).toNat=swB S (S.gen % 2))(h1:(Gn (f ((S.gen+1) % 2).toNat) ((S.gen+1) % 2)).gen<S.gen):Gq f=S/\Ey (f 0) (f 1)=0:=by
 have y:=Int.emod_nonneg S.gen (show (2:Int)≠0 by omega);have A:=Int.emod_lt_of_pos S.gen (show (0:Int)<2 by omega);have u:Yk S (S.gen % 2)=true:=by unfold Yk;rw[hm,Bool.true_and];exact AL ⟨y,by omega⟩
 obtain⟨m,d⟩:=qm4 u;rcases (show S.gen % 2=0\/S.gen % 2=1 by omega) with e|e
 ·have p:(S.gen+1) % 2=1:=by omega
  rw[e] at h0 m d;rw[p] at h1;replace h0:f 0=swB S 0:=h0;replace h1:(Gn (f 1) 1).gen<S.gen:=h1;have h:=Qbn (a:=f 0) (b:=f 1) (λg=>by rw[h0,m] at g;cases g.1) (by rw[h0,d];omega);exact⟨by unfold Gq;rw[h.1,h0,d],h.2.2⟩
 ·have p:(S.gen+1) % 2=0:=by omega
  rw[e] at h0 m d;rw[p] at h1;replace h0:f 1=swB S 1:=h0;replace h1:(Gn (f 0) 0).gen<S.gen:=h1;have h:=Qbo (a:=f 0) (b:=f 1) (λg=>by rw[h0,m] at g;cases g.2) (by rw[h0,d];exact h1);exact⟨by unfold Gq;rw[h.1,h0,d],h.2.2⟩
theorem qwq {S:Sp}(hm:S.may=true){C:Ct}(d:C.ok)(B:C.res)(hn:S.Qa=(C.n:Int)){f:Nat->LU}(h0:f (S.gen % 2).toNat=swB S (S.gen % 2))(h1:(Gn (f ((S.gen+1) % 2).toNat) ((S.gen+1) % 2)).gen<S.gen)
  (h2:∀i,i<Qj C.n->f (Qx C.n S.gen+i)=Zk (U5 C.n S.gen i) (C.body (i:Int))):Eo f false C.n=0/\Gq f=S/\Ny f C.n S.gen=C.commit:=by
 obtain⟨m,A⟩:=qow hm h0 h1;have p:Ad S.gen:=by
  have:=(Tq hm).1;exact⟨this.1,this.2.1⟩
 have g:Ti f C.n S.gen=C.bodies:=by
  unfold Ti Ct.bodies;refine List.map_congr_left λi hi=>?_
  have e:=List.mem_range.1 hi;rw[h2 i e,(qjs d.1.1 d.1.2 p e).2]
 obtain⟨u,y⟩:=Ct.Lr d B;refine⟨?_,m,by unfold Ny;rw[g,y]⟩;unfold Eo;rw[m,AB (by decide),AB (λh=>h ⟨A,hn⟩),AB (λh=>h ⟨λi hi=>by rw[h2 i hi];exact (qjs d.1.1 d.1.2 p hi).1,by rw[g];exact u⟩)]
def Ba (k:Int)(a:Nat)(m:Nat)(g:Int):Hd:=⟨k,(a:Int),(m:Int),0,g⟩
def Vd (x:LU)(k:Int)(a:Nat)(most:Nat):Bool:=Vb x k (a:Int)&&(decide ((Xo x).level=0/\(Xo x).count<=(most:Int))&&Yc ((x.drop 20).drop (Xo x).count.toNat))
def Oq (x:LU):LU:=(x.drop 20).take (Xo x).count.toNat
theorem qox (m:Nat):Yc (List.replicate m 0)=true:=by
 unfold Yc;simp
theorem qoy (slot:Int):Xg (List.replicate 256 0) slot=false:=by
 have h:okB (List.replicate 256 0)=false:=by
  cases e:okB (List.replicate 256 0)
  ·rfl
  ·obtain⟨_,_,d,_⟩:=AK e;have:(Gu (((List.replicate 256 (0:UInt8)).drop 4).take 11)).ok=false:=by decide
   rw[this] at d
   cases d
 unfold Xg;rw[h,Bool.false_and]
end
def q12:LU:=List.replicate 256 0
def Vf (_:Nat):List Stp:=[.w 0 q12,.w 1 q12,.fl]
def Sv (n:Nat):List Stp:=Fe (Qx n 1) (Wy (Ct.zero n) 1)++[.fl]
def fmtS (n:Nat):Sp:=sp0 1 (n:Int) 0
def fmtC (n:Nat):List Stp:=[.w 1 (swB (fmtS n) 1),.fl]
def Xu (n:Nat):List Stp:=Vf n++(Sv n++fmtC n)
theorem q3l (C:Ct)(g:Int):(Wy C g).length=Qj C.n:=by unfold Wy;simp
theorem qjt (C:Ct)(g:Int){i:Nat}(hi:i<Qj C.n):(Wy C g).getD i []=Zk (U5 C.n g i) (C.body (i:Int)):=by
 unfold Wy;rw[AG,BA,List.getElem?_range hi];rfl
theorem qoz {C:Ct}(_:32<=C.n)(_:C.n<=2048){g:Int}(_:Ad g){x:LU}(d:x∈Wy C g):x.length=256:=by
 unfold Wy at d;rw[List.mem_map] at d;obtain⟨i,hi,rfl⟩:=d;exact q9m _ _ (by rw[Ct.Uk (List.mem_range.1 hi)];exact AE _)
theorem q56 {n:Nat}(h1:32<=n)(h2:n<=2048):(fmtS n).may=true:=by
 refine qo4 ?_ λj f=>?_
 ·unfold Sp.hd fmtS sp0;exact AL ⟨by show (1:Int)<=1;omega,by show (1:Int)<=1099511627775;omega,by show (32:Int)<=(n:Int);omega,by show (n:Int)<=2048;omega,by show (0:Int)<=0;omega,by show (0:Int)<=(n:Int)-1;omega⟩
 ·have e:(fmtS n).at_ j=Vl.zero:=by
   unfold Sp.at_ fmtS sp0;rw[AG,List.getElem?_replicate];split<;>rfl
  have d:Vl.zero.same Vl.zero=true:=by simp[Vl.same]
  unfold Sp.ok1;rw[e,d,Bool.true_or]
theorem qyh {n:Nat}(h1:32<=n)(h2:n<=2048):∀a∈Xu n,a.ok n:=by
 intro a d;have m:q12.length=256:=by unfold q12;rw[BK]
 unfold Xu Vf Sv fmtC at d;rw[List.mem_append,List.mem_append,List.mem_append] at d;rcases d with d|(d|d)|d
 ·simp at d;rcases d with rfl|rfl|rfl
  ·exact⟨by omega,m⟩
  ·exact⟨by omega,m⟩
  ·trivial
 ·cases a with
  |w s x=>
   obtain⟨i,hi,u,p⟩:=qoo d;rw[q3l,Ct.Zc] at hi;have:=q6r h1 h2 1 hi;refine⟨by omega,?_⟩;rw[p];have e:i<(Wy (Ct.zero n) 1).length:=by rw[q3l,Ct.Zc];exact hi
   refine qoz (C:=Ct.zero n) (by rw[Ct.Zc];exact h1) (by rw[Ct.Zc];exact h2) (g:=1) ⟨by omega,by omega⟩ ?_;rw[AG,AC e];exact List.getElem_mem e
  |fl=>trivial
 ·simp at d;subst d;trivial
 ·simp at d;rcases d with rfl|rfl
  ·refine⟨by omega,?_⟩;have f:Yk (fmtS n) 1=true:=by unfold Yk;rw[q56 h1 h2,Bool.true_and];decide
   unfold swB;rw[AA f];exact q9m _ _ (by rw[qa2 (q56 h1 h2)];omega)
  ·trivial
theorem qp0 {n:Nat}:(Xu n).length=Qj n+6:=by
 unfold Xu Vf Sv fmtC;rw[AD,AD,AD,qi0,q3l,Ct.Zc];simp;omega
theorem qp1 {n:Nat}(h1:32<=n)(h2:n<=2048)(d:Nat->LU):Y8 0 (Xu n) (d 0)=q12/\Y8 1 (Xu n) (d 1)=swB (fmtS n) 1/\∀i,i<Qj n->Y8 (Qx n 1+i) (Xu n) (d (Qx n 1+i))=Zk (U5 n 1 i) ((Ct.zero n).body (i:Int)):=by
 have f:∀s,s<2->spares s (Fe (Qx n 1) (Wy (Ct.zero n) 1)):=λs m=>qm3 (.inl (by unfold Qx;omega))
 unfold Xu Vf Sv fmtC;refine⟨?_,?_,λi hi=>?_⟩
 ·rw[Tn,Tn,Tn,q32 (f 0 (by omega))];rfl
 ·rw[Tn,Tn];rfl
 ·have e:i<(Wy (Ct.zero n) 1).length:=by rw[q3l,Ct.Zc];exact hi
  have h:=q6r h1 h2 1 hi;rw[Tn,Tn,Tn,qop _ _ _ _ e,qjt _ _ (by rw[Ct.Zc];exact hi),Ct.Zc];exact q32 (s:=Qx n 1+i) (l:=[Stp.w 1 (swB (fmtS n) 1),.fl]) (λt x g=>by simp at g;omega) _
inductive Bk where
 |node (N:Nd)
 |bytes (k:Int) (l:LU)
def Bk.out (b:Bk)(a:Nat)(g:Int):LU:=match b with
 |.node N=>Jr N (a:Int) g
 |.bytes k l=>Zk (Ba k a l.length g) l
def Bk.fine (b:Bk):Prop:=∀(a:Nat) (g:Int),a<=2047->Ad g->(b.out a g).length=256
structure Pl where
 S:Sp
 C:Ct
 L:Nat->Option Bk
structure Pl.ok (P:Pl):Prop where
 c:P.C.ok
 res:P.C.res
 may:P.S.may=true
 sec:P.S.Qa=(P.C.n:Int)
 gen:P.S.gen<1099511627775
 fine:∀a b,P.L a=some b->b.fine
structure Qa5 (P:Pl)(S0:Sp)(C0:Ct)(f:Nat->LU):Prop where
 may:S0.may=true
 gen:S0.gen=P.S.gen
 sec:S0.Qa=(P.C.n:Int)
 c:C0.ok
 res:C0.res
 n:C0.n=P.C.n
 slot:f (P.S.gen % 2).toNat=swB S0 (P.S.gen % 2)
 other:(Gn (f ((P.S.gen+1) % 2).toNat) ((P.S.gen+1) % 2)).gen<P.S.gen
 area:∀i,i<Qj P.C.n->f (Qx P.C.n P.S.gen+i)=Zk (U5 P.C.n P.S.gen i) (C0.body (i:Int))
structure DM.free (D:DM):Prop where
 on:D.off=false
 Og:D.fused=false
theorem qp2 {D:DM}(h:D.free)(m:Nat):D.room m=m:=by
 unfold DM.room;rw[h.on,h.Og];rfl
theorem qtc {D:DM}(h:D.free){l:List Stp}(m:∀a∈l,a.ok D.n):D.Jk l=0/\(D.Qy l).free/\(D.Qy l).n=D.n/\(D.Qy l).steps=D.steps+l.length/\(D.Qy l).mem=D.mem.gos l:=by
 obtain⟨h1,h2,_,f,d,_,g⟩:=qt7 l D m;have e:=qp2 h l.length;rw[e,List.take_length] at h1;rw[e] at d;rcases g with⟨_,j2,j3⟩|⟨j1,_,_⟩
 ·exact⟨j2,⟨j3.trans h.on,f.trans h.Og⟩,h2,d,h1⟩
 ·omega
theorem qwr (D:DM)(s:Nat):D.mem.Zp s=D.Zp s:=rfl
theorem qm5 (D:DM)(s:Nat):D.mem.newest s=D.newest s:=rfl
def Pl.fresh (n:Nat):Pl:=⟨fmtS n,Ct.zero n,λ_=>none⟩
theorem qtd {n:Nat}(h1:32<=n)(h2:n<=2048):(Pl.fresh n).ok:=
 ⟨Ct.Aq h1 h2,Ct.Iw n,q56 h1 h2,by show (n:Int)=((Ct.zero n).n:Int);rw[Ct.Zc],by show (1:Int)<1099511627775;omega,λa b h=>by cases h⟩
structure Sound (D:DM)(P:Pl)(S0:Sp)(C0:Ct):Prop where
 free:D.free
 n:D.n=P.C.n
 G7:∀s,D.Zp s=[]
 holds:Qa5 P S0 C0 D.Xl
theorem qju {D:DM}{n:Nat}(h1:32<=n)(h2:n<=2048)(hn:D.n=n)(h:D.free):D.Jk (Xu n)=0/\Sound (D.Qy (Xu n)) (Pl.fresh n) (fmtS n) (Ct.zero n)/\(D.Qy (Xu n)).steps=D.steps+(Qj n+6):=by
 subst hn;obtain⟨m,p,u,e,f⟩:=qtc h (qyh h1 h2);rw[qp0] at e;have g:∀s,(D.Qy (Xu D.n)).Zp s=[]:=λs=>by
  rw[<-qwr,f];unfold Xu fmtC;rw[qcb,qcb];rfl
 have hd:∀s,(D.Qy (Xu D.n)).Xl s=Y8 s (Xu D.n) (D.newest s):=λs=>by
  have y:(D.Qy (Xu D.n)).newest s=(D.Qy (Xu D.n)).Xl s:=by unfold DM.newest;rw[g];rfl
  rw[<-y,<-qm5,f,q7m];rfl
 obtain⟨A,B,E⟩:=qp1 h1 h2 D.newest;refine⟨m,⟨p,u.trans (Ct.Zc _).symm,g,?_⟩,e⟩;refine⟨q56 h1 h2,rfl,by show (D.n:Int)=((Ct.zero D.n).n:Int);rw[Ct.Zc],Ct.Aq h1 h2,Ct.Iw _,rfl,?_,?_,λi hi=>?_⟩
 ·show (D.Qy (Xu D.n)).Xl 1=swB (fmtS D.n) 1;rw[hd,B]
 ·show (Gn ((D.Qy (Xu D.n)).Xl 0) 0).gen<1;rw[hd,A];unfold q12;rw[(qi1 (qoy 0)).1];decide
 ·have d:i<Qj D.n:=by
   have:(Pl.fresh D.n).C.n=D.n:=Ct.Zc _;rwa [this] at hi
  show (D.Qy (Xu D.n)).Xl (Qx (Ct.zero D.n).n 1+i)=Zk (U5 (Ct.zero D.n).n 1 i) _;rw[Ct.Zc,hd,E i d]
theorem qfs {D:DM}{P:Pl}{g:Sp}{e:Ct}(m:Sound D P g e):Eo D.newest false D.n=0/\Gq D.newest=g/\Ny D.newest D.n P.S.gen=e.commit:=by
 have H:=m.holds;have d:∀s,D.newest s=D.Xl s:=λs=>by unfold DM.newest;rw[m.G7];rfl
 have p:=qwq (S:=g) H.may (C:=e) H.c H.res (by rw[H.n];exact H.sec) (f:=D.newest) (by rw[H.gen,d];exact H.slot) (by rw[H.gen,d];exact H.other)
  (λi hi=>by rw[H.n] at hi ⊢;rw[H.gen,d];exact H.area i hi)
 rw[H.n,H.gen] at p;rw[m.n];exact p
theorem Ct.Oh {C:Ct}{k:Nat}(h:C.pick=some k)(j:Nat)(hj:j<C.n):C.alloc.may j=if j=k then false else C.may j:=by
 obtain⟨h1,h2,f,g,_⟩:=Ct.Ju h;rw[(Ct.Jf h).2.2,Ct.Md,Ct.Md,Ct.Bd (C.Zg k 1),q67 C k 1 j hj];have e:nm (C.put k 1).done j=nm C.done j:=rfl;rw[e];by_cases d:j=k
 ·rw[AA d,AA d];exact AH (by rintro⟨_,m,_⟩;omega)
 ·rw[AB d,AB d]
theorem Ct.Eh {C:Ct}{k:Nat}(h:C.pick=some k):∀m,m<=C.n->C.alloc.Vs m+(if k<m then 1 else 0)=C.Vs m:=by
 obtain⟨h1,h2,p,u,_⟩:=Ct.Ju h;have f:C.may k=true:=by rw[Ct.Md];exact AL ⟨h2,p,u⟩
 intro m;induction m with
 |zero=>intro _;rfl
 |succ m d=>
  intro hm;have d:=d (by omega);rw[Ct.Ac,Ct.Ac,Ct.Oh h m (by omega)];by_cases e:m=k
  ·subst e;rw[AA rfl,AB (by decide),AA (by omega),AA f];rw[AB (by omega)] at d;omega
  ·rw[AB e];by_cases g:k<m
   ·rw[AA g] at d;rw[AA (show k<m+1 by omega)];omega
   ·rw[AB g] at d;rw[AB (show ¬k<m+1 by omega)];omega
theorem Ct.U4 {C:Ct}{k:Nat}(h:C.pick=some k):C.alloc.free+1=C.free:=by
 have d:=(Ct.Ju h).1;have:=Ct.Eh h C.n (AE _);rw[AA d] at this;unfold Ct.free;rw[C.Ei];exact this
theorem Ct.Bo {C:Ct}(h:0<C.free):∃k,C.pick=some k:=by
 cases d:C.pick with
 |some k=>exact⟨k,rfl⟩
 |none=>have:=Ct.Yh d;omega
def Pl.lay (P:Pl)(b:Bk):Pl:=match P.C.pick with
 |some a=>⟨P.S,P.C.alloc,upd P.L a (some b)⟩
 |none=>P
theorem q2k {P:Pl}{a:Nat}(h:P.C.pick=some a)(b:Bk):P.lay b=⟨P.S,P.C.alloc,upd P.L a (some b)⟩:=by unfold Pl.lay;rw[h]
theorem qjv {P:Pl}(h:P.ok){b:Bk}(m:b.fine):(P.lay b).ok:=by
 cases g:P.C.pick with
 |none=>
  have:P.lay b=P:=by unfold Pl.lay;rw[g]
  rw[this];exact h
 |some a=>
  rw[q2k g];refine⟨Ct.Ry h.c,Ct.Oi h.res,h.may,by show P.S.Qa=(P.C.alloc.n:Int);rw[Ct.Ei];exact h.sec,h.gen,λc d f=>?_⟩;replace f:upd P.L a (some b) c=some d:=f;by_cases e:c=a
  ·subst e;rw[Aj] at f;injection f with f;exact f▸m
  ·rw[Af _ _ e] at f;exact h.fine c d f
theorem qi2 {P:Pl}(b:Bk):(P.lay b).C.n=P.C.n:=by
 unfold Pl.lay;split
 ·exact P.C.Ei
 ·rfl
theorem qte {P:Pl}(b:Bk):(P.lay b).S=P.S:=by
 unfold Pl.lay;split<;>rfl
theorem qft {D:DM}{P:Pl}{g:Sp}{f:Ct}(h:Sound D P g f)(b:Bk):Sound D (P.lay b) g f:=by
 have d:=qi2 (P:=P) b;have e:=qte (P:=P) b;refine⟨h.free,h.n.trans d.symm,h.G7,?_⟩;have H:=h.holds;exact⟨H.may,by rw[e];exact H.gen,by rw[d];exact H.sec,H.c,H.res,by rw[d];exact H.n,by rw[e];exact H.slot,by rw[e];exact H.other,by rw[d,e];exact H.area⟩
theorem q7n {P:Pl}{a:Nat}(h:P.C.pick=some a)(b:Bk)(c:Nat)(d:c<P.C.n):(P.lay b).C.get (c:Int)=if c=a then 1 else P.C.get (c:Int):=by
 rw[q2k h];show P.C.alloc.get (c:Int)=_;rw[(Ct.Jf h).2.2];unfold Ct.get;rw[C_put_n_get d,q67 P.C a 1 c d];by_cases e:c=a
 ·rw[AA e,AA e]
 ·rw[AB e,AB e,AA (show 0<=(c:Int)/\(c:Int)<(P.C.n:Int) by omega),AJ]
 where
 C_put_n_get {C:Ct} {k:Nat} {x:Int} {c:Nat} (d:c<C.n):(if 0<=(c:Int)/\(c:Int)<((C.put k x).n:Int) then nm (C.put k x).now (c:Int).toNat else 0)=nm (C.put k x).now c:=by
  rw[C.Zg,AA ⟨by omega,by omega⟩,AJ]
theorem qbv {P:Pl}{a:Nat}(h:P.C.pick=some a)(b:Bk)(c:Nat):(P.lay b).L c=if c=a then some b else P.L c:=by
 rw[q2k h];rfl
section
def q3m (A:OA)(n c:Nat)(a:LU)(B:OA)(m d:Nat)(b:LU)(w:WD):Prop:=
  Calls prog 43 #[.slice A n c,.slice B m d] w λe f=>e=.returned (.tuple #[.agg (snS a b).vs.toArray,.int .i64 (snI a b),.int .i64 (Ey a b)])/\Below w.1.size w f
attribute [local go_sem ↓] q25 q6m q6n q93 qjr
theorem q7o (A:OA)(n c:Nat)(a:LU)(B:OA)(m d:Nat)(b:LU)(w:WD)(ha:Sl w A n c a)(hb:Sl w B m d b)(ht:Tab w):q3m A n c a B m d b w:=by
 unfold q3m;have a9:=qdy true;have b0:=qjk;have Z1:=SB.new w Sp.zero 61;have b1:Below w.1.size w (w.alloc (.cells Sp.zero.vs.toArray 61)):=Ql;go_enter func43,ntmps43
 go_wp2_with fail
 generalize w.alloc (.cells Sp.zero.vs.toArray 61)=w1 at Z1 b1 ⊢;refine Calls.mono (qfr A n c a 0 w1 (ha.below b1) (ht.below b1 ht.1)) ?_;rintro e w2 ⟨rfl,a2⟩;have Z2:=Z1.below a2 Z1.lt;have B2:=b1.trans (a2.mono b1.size);have H2:=SB.new w2 Sp.zero 61;have b2:Below w2.1.size w2 (w2.alloc (.cells Sp.zero.vs.toArray 61)):=Ql;have D:=qvo (l:=a) (slot:=0);have U:=qvo (l:=b) (slot:=1);have K2:=λh1 h2=>Qcg (a:=a) (b:=b) h1 h2
 have K1:=λh1 h2=>Qbo (a:=a) (b:=b) h1 h2
 have K0:=λh1 h2=>Qbn (a:=a) (b:=b) h1 h2
 obtain⟨SA,a4⟩:∃SA,Gn a 0=SA:=⟨_,rfl⟩;obtain⟨Q,a1⟩:∃Q,Gn b 1=Q:=⟨_,rfl⟩;rw[a4] at D K1 K0 ⊢;rw[a1] at U K1 K0;clear a4;have KK:=HI (And.intro K2 (And.intro K1 K0));have Ka:=HI D;have Kb:=HI U;clear K2 K1 K0 D U;obtain⟨ea,a6⟩:∃ea,srE a 0=ea:=⟨_,rfl⟩;rw[a6];clear a6;go_wp2_with (first
  |(refine Es rfl _ _ rfl w2.1.size rfl SA Sp.zero rfl H2 ?_;intro w3 H3 a5 T3;have a0:=b2.trans (a5 _ (AE _));have B3:=B2.trans (a0.mono B2.size);have Z3:=Z2.below a0 Z2.lt)
  |fail)
 refine Calls.mono (qfr B m d b 1 w3 (hb.below B3) (ht.below B3 ht.1)) ?_;rw[a1];rintro e O ⟨rfl,T⟩;have J:=H3.below T H3.lt;have R:=Z3.below T Z3.lt;have W:=B3.trans (T.mono B3.size);have P:=SB.new O Sp.zero 61;have b4:Below O.1.size O (O.alloc (.cells Sp.zero.vs.toArray 61)):=Ql;obtain⟨eb,a7⟩:∃eb,srE b 1=eb:=⟨_,rfl⟩;rw[a7];clear a7 a1 H2 b2 a5 T3 a0 B3 Z3 H3 T Z2 B2 a2 Z1 b1;obtain⟨K,H⟩:∃K,SA.gen=K:=⟨_,rfl⟩;obtain⟨M,I⟩:∃M,Q.gen=M:=⟨_,rfl⟩;have y:=HI H;have G:=HI I;obtain⟨bk,a8⟩:∃bk,w2.1.size=bk:=⟨_,rfl⟩;rw[a8] at J ⊢;have b5:w.1.size<O.1.size:=R.lt;have b3:bk<O.1.size:=J.lt;rcases Ka.out with D|D
 ·rcases Kb.out with U|U
  ·have g:=KK.out.1 D.2.2 U.2.2;have e1:K=0:=by rw[<-y.out];exact D.1
   have e2:M=0:=by rw[<-G.out];exact U.1
   subst e1 e2;go_wp2_with (first
    |(refine Es rfl _ _ rfl O.1.size rfl Q Sp.zero rfl P ?_;intro w5 E p T5;have f:=b4.trans (p _ (AE _));have X:=W.trans (f.mono W.size);have Z:=R.below f R.lt;have F:=J.below f J.lt;have g5:=E.c0;have g6:=F.c0;have l5:=E.ld;have l6:=F.ld;rw[I] at g5;rw[H] at g6)
    |(refine Es rfl _ _ rfl w.1.size rfl Sp.zero Sp.zero rfl Z ?_;intro w9 Y u T9)
    |fail)
   refine bodyPost_ret (O0 Tryz.results43 rfl (q4h Y)) rfl ?_;rw[g.1,g.2.1,g.2.2];exact⟨rfl,X.trans (u _ (AE _))⟩
  ·have e1:K=0:=by rw[<-y.out];exact D.1
   have e2:1<=M:=by rw[<-G.out];exact U.1
   have g:=KK.out.2.1 (by rw[D.2.2,U.2.2];simp) (by rw[y.out,G.out];omega);subst e1;have e3:¬M=0:=by omega
   have e4:(0:Int)<M:=by omega
   have e5:(M==0)=false:=by simpa using e3
   go_wp2_with (first
    |(refine Es rfl _ _ rfl O.1.size rfl Q Sp.zero rfl P ?_;intro w5 E p T5;have f:=b4.trans (p _ (AE _));have X:=W.trans (f.mono W.size);have Z:=R.below f R.lt;have F:=J.below f J.lt;have g5:=E.c0;have g6:=F.c0;have l5:=E.ld;have l6:=F.ld;rw[I] at g5;rw[H] at g6)
    |(refine Es rfl _ _ rfl w.1.size rfl Q Sp.zero rfl Z ?_;intro w9 Y u T9)
    |fail)
   refine bodyPost_ret (O0 Tryz.results43 rfl (q4h Y)) rfl ?_;rw[g.1,g.2.1,g.2.2];exact⟨rfl,X.trans (u _ (AE _))⟩
 ·have e1:1<=K:=by rw[<-y.out];exact D.1
  have e3:¬K=0:=by omega
  have e5:(K==0)=false:=by simpa using e3
  by_cases a3:K<M
  ·have g:=KK.out.2.1 (by rw[D.2.2];simp) (by rw[y.out,G.out];exact a3);have e6:decide (K<M)=true:=AL a3;go_wp2_with (first
    |(refine Es rfl _ _ rfl O.1.size rfl Q Sp.zero rfl P ?_;intro w5 E p T5;have f:=b4.trans (p _ (AE _));have X:=W.trans (f.mono W.size);have Z:=R.below f R.lt;have F:=J.below f J.lt;have g5:=E.c0;have g6:=F.c0;have l5:=E.ld;have l6:=F.ld;rw[I] at g5;rw[H] at g6)
    |(refine Es rfl _ _ rfl w.1.size rfl Q Sp.zero rfl Z ?_;intro w9 Y u T9)
    |fail)
   refine bodyPost_ret (O0 Tryz.results43 rfl (q4h Y)) rfl ?_;rw[g.1,g.2.1,g.2.2];exact⟨rfl,X.trans (u _ (AE _))⟩
  ·have g:=KK.out.2.2 (by rw[D.2.2];simp) (by rw[y.out,G.out];omega);have e6:decide (K<M)=false:=AH a3;go_wp2_with (first
    |(refine Es rfl _ _ rfl O.1.size rfl Q Sp.zero rfl P ?_;intro w5 E p T5;have f:=b4.trans (p _ (AE _));have X:=W.trans (f.mono W.size);have Z:=R.below f R.lt;have F:=J.below f J.lt;have g5:=E.c0;have g6:=F.c0;have l5:=E.ld;have l6:=F.ld;rw[I] at g5;rw[H] at g6)
    |(refine Es rfl _ _ rfl w.1.size rfl SA Sp.zero rfl Z ?_;intro w9 Y u T9)
    |fail)
   refine bodyPost_ret (O0 Tryz.results43 rfl (q4h Y)) rfl ?_;rw[g.1,g.2.1,g.2.2];exact⟨rfl,X.trans (u _ (AE _))⟩
end
