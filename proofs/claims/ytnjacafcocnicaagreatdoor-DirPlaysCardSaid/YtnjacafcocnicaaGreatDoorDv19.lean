/- Superblocks: the code's Read -/
import Derived.Test.YtnjacafcocnicaaGreatDoorDv13
import Derived.Test.YtnjacafcocnicaaGreatDoorDv16
import Derived.Test.YtnjacafcocnicaaGreatDoorDv18
import Derived.Laws.Cover3
namespace Go.Proofs.YtnjacafcocnicaaGreatDoor
open Go Go.RowKit Go.Proofs Tryz
set_option maxHeartbeats 4000000
set_option maxRecDepth 100000
section
def rdL (l:LU):Sp:=rdS (Yz l).gen (U8 l)
def Xu (l:LU)(slot:Int):Bool:=okB l&&(Xy (rdL l) slot&&decide (l=swB (rdL l) slot))
def G6 (l:LU)(slot:Int):Sp:=if Xu l slot=true then rdL l else Sp.zero
def srE (l:LU)(slot:Int):Int:=if Xu l slot=true then 0 else 3
theorem qjc {l:LU}{slot:Int}(h:Xu l slot=false):G6 l slot=Sp.zero/\srE l slot=3:=by
 unfold G6 srE;rw[h];exact⟨rfl,rfl⟩
theorem qlh {l:LU}{slot:Int}(h:Xu l slot=true):G6 l slot=rdL l/\srE l slot=0:=by
 unfold G6 srE;rw[AA h,AA h];exact⟨rfl,rfl⟩
def ldX (p:Value):Sem Value:=Instr.loadAt 222 p
theorem qli (p:Value):Instr.loadAt 222 p=ldX p:=rfl
theorem qap {P:Program}(w:WD)(a:Addr)(ty:TypeId)(e:LV)(d:TypeDesc)(p:∀(j:Nat) v,e[j]?=some v->w.cell? (a.add j)=some v)
  (y:P.underlying ty=some d) (hd:d.isRow=true) (hi:(P.info? ty).map (·.size)=some e.length) :
  (loadVar ty a).run P w=.ok (.agg e.toArray) w:=by
 have q:(loadCells a e.length).run P w=.ok e.toArray w:=run_loadCells_list (P:=P) w a e p
 cases m:P.info? ty with
 |none=>simp[m] at hi
 |some i=>
  have u:i.size=e.length:=by simpa [m] using hi
  have f:(isAgg ty).run P w=.ok true w:=by
   unfold isAgg;rw[Sem.run_bind,run_underlying y w]
   cases d<;>simp_all
  simp[loadVar,Sem.run_bind,f,sizeOf,typeInfo,m,u,q]
theorem qqj {w:WD}{f:Addr}{c:Nat}{l:LU}(h:Sl w (some f) 256 c l):(ldX (.pointer (some f))).run prog w=.ok (.agg (l.map bv).toArray) w:=by
 have q:=h.len;unfold ldX;simp only[Instr.loadAt,Instr.sureAddr,Sem.run_bind,Sem.run_pure,Result.andThen_ok,qap w f 222 (l.map bv) _ (λj v u=>by
  obtain⟨m,e,_,p⟩:=h.2.2.2 j v u;injection e with e;subst e;exact p) underlying222 rfl (by rw[AF,q];kernel_rfl)]
theorem qqk (e:OA)(c:Nat)(w:WD):(Instr.arrayAt 222 (.slice e 256 c)).run prog w=.ok (.pointer e) w:=
 run_arrayAt w 222 _ 256 e 256 c underlying222 (AE _)
theorem qql (e:BinOp)(x y:Operand)(xs f:Array Value)(w:WD):(eqGuard e 222 x y (.agg xs) (.agg f)).run prog w=.ok () w:=
 run_eqGuard_agg w e 222 x y xs f (by kernel_rfl)
theorem qBy {l:LU}(h:okB l=true):l.length=256:=(AK h).1
def qgo (A:OA)(n c:Nat)(l:LU)(slot:Int)(w:WD):Prop:=
  Calls prog 147 #[.slice A n c,.int .i64 slot] w λe f=>e=.returned (.tuple #[.agg (G6 l slot).vs.toArray,.int .i64 (srE l slot)])/\Below w.1.size w f
attribute [local go_sem ↓] q1w q6z q5b q9r qli
theorem qgp (A:OA)(n c:Nat)(l:LU)(slot:Int)(w:WD)(hs:Sl w A n c l)(ht:Tab w):qgo A n c l slot w:=by
 unfold qgo;have d2:=qag true;have d3:=qlb;have Z1:=SB.new w Sp.zero 103;have Y:Below w.1.size w (w.alloc (.cells Sp.zero.vs.toArray 103)):=Qi;go_enter func147,ntmps147
 go_wp2_with fail
 generalize w.alloc (.cells Sp.zero.vs.toArray 103)=w1 at Z1 Y ⊢;refine (q59 A n c l w1 (hs.below Y) (ht.below Y ht.1)).mono ?_;rintro e G ⟨A3,n3,c3,rfl,D,M⟩;have Z3:=Z1.below M Z1.lt;have B3:=Y.trans (M.mono Y.size);have HZ:=HB.zero G 153;have U:G.1.size<(G.alloc (.cells #[.int .i64 0,.int .i64 0,.int .i64 0,.int .i64 0,.int .i64 0] 153)).1.size:=by simp
 have b3:Below G.1.size G (G.alloc (.cells #[.int .i64 0,.int .i64 0,.int .i64 0,.int .i64 0,.int .i64 0] 153)):=Qi;obtain⟨o,Z⟩:∃o,okB l=o:=⟨_,rfl⟩
 cases o
 ·obtain⟨V,W⟩:=qjc (l:=l) (slot:=slot) (by unfold Xu;rw[Z];rfl);have hE:=(qkm Z).2.2;rw[hE];go_wp2_with (first
   |(refine q0v rfl _ _ rfl G.1.size rfl (Yz l) _ rfl HZ U ?_;intro w4 P p T4;have B4:=B3.trans ((b3.trans (p _ (AE _))).mono B3.size);have Z4:=Z3.below (b3.trans (p _ (AE _))) Z3.lt)
   |(refine Fq rfl _ _ rfl w.1.size rfl Sp.zero Sp.zero rfl Z4 ?_;intro w9 H m T9)
   |fail)
  refine bodyPost_ret (q1x Tryz.results147 rfl (q46 H)) rfl ?_;rw[V,W];exact⟨rfl,B4.trans (m _ (AE _))⟩
 ·have hE:=(q7j Z).2.2;rw[hE];have hB:U8 l=l.drop 20:=(q7j Z).2.1;have q:=qBy Z;go_wp2_with (first
   |(refine q0v rfl _ _ rfl G.1.size rfl (Yz l) _ rfl HZ U ?_;intro w4 P p T4;have y:=b3.trans (p _ (AE _));have B4:=B3.trans (y.mono B3.size);have Z4:=Z3.below y Z3.lt;have g4:=P 4 _ rfl)
   |fail)
  have E:=D.sl.below y;clear P p T4 HZ U b3 D Z3 B3 M Z1 Y y;have T:Sl w4 A3 n3 c3 (U8 l):=E;have b4:n3=236:=by have:=T.len;rw[hB,AS,q] at this;omega
  have b5:148<=n3:=by omega
  have b7:n3<=1000:=by omega
  clear b4 E hB;refine (qei (Yz l).gen A3 n3 c3 (U8 l) w4 T b5 b7).mono ?_;rintro e w5 ⟨rfl,O⟩;have Z5:=Z4.below O Z4.lt;have B5:=B4.trans (O.mono B4.size);have hf:=qv9 (Yz l).gen (U8 l);have b0:rdS (Yz l).gen (U8 l)=rdL l:=rfl;rw[b0] at hf ⊢;obtain⟨R,hR⟩:∃R,rdL l=R:=⟨_,rfl⟩;rw[hR] at hf ⊢;clear b0 O T Z4 B4 g4;have H6:=SB.new w5 Sp.zero 103;have b6:Below w5.1.size w5 (w5.alloc (.cells Sp.zero.vs.toArray 103)):=Qi;go_wp2_with (first
   |(refine Fq rfl _ _ rfl w5.1.size rfl R Sp.zero rfl H6 ?_;intro w6 H7 f T7;have I:=b6.trans (f _ (AE _));have B6:=B5.trans (I.mono B5.size);have Z6:=Z5.below I Z5.lt;have a6:=H7.ld)
   |fail)
  clear H6 b6 f T7 I;refine (q80 R slot hf w6 (ht.below B6 ht.1)).mono ?_;rintro e w7 ⟨A7,n7,c7,rfl,F,a2,f⟩;have Z7:=Z6.below f Z6.lt;have B7:=B6.trans (f.mono B6.size);have H8:=H7.below f H7.lt;obtain⟨k,hk⟩:∃k,Xy R slot=k:=⟨_,rfl⟩;have a7:=H8.ld;clear a6 Z6 H7 f B6
  cases k
  ·obtain⟨h1,h2⟩:=qzk hk;obtain⟨V,W⟩:=qjc (l:=l) (slot:=slot) (by unfold Xu;rw[hR,hk,Bool.false_and,Bool.and_false]);rw[h1];go_wp2_with fail
   refine Ux (by kernel_rfl) (by kernel_rfl) ?_;repeat (go_big_quiet_step (fail))
   refine wpQuiet_nil ?_;rintro _ ⟨u,rfl⟩;have Z9:=Z7.below u.ok Z7.lt;have B9:=B7.trans (u.ok.mono B7.size);go_wp2_with (first
    |(refine Fq rfl _ _ rfl w.1.size rfl Sp.zero Sp.zero rfl Z9 ?_;intro w9 H m T9)
    |fail)
   refine bodyPost_ret (q1x Tryz.results147 rfl (q46 H)) rfl ?_;rw[V,W];exact⟨rfl,B9.trans (m _ (AE _))⟩
  ·obtain⟨h1,h2,_,_⟩:=qld hk;obtain⟨g7,rfl,rfl,rfl⟩:=a2 hk;rw[h1];have Q:=hs.below B7;have b9:n=256:=by have:=Q.len;omega
   subst b9;obtain⟨ad,rfl,_⟩:=hs.cell (k:=0) (by omega);have B:=F.sl;obtain⟨X,hX⟩:∃X,swB R slot=X:=⟨_,rfl⟩;rw[hX] at B;have a1:=B.len;obtain⟨r,hr⟩:∃r,decide (l=X)=r:=⟨_,rfl⟩;have c6:∀u:Grown w7,(ldX (.pointer (some ad))).run prog u.to=.ok (.agg (l.map bv).toArray) u.to:=λu=>qqj (Q.below u.ok)
   have c8:∀u:Grown w7,(ldX (.pointer (some ⟨g7,0,none⟩))).run prog u.to=.ok (.agg (X.map bv).toArray) u.to:=λu=>qqj (B.below u.ok)
   have d0:=qqk (some ad) c;have d1:=qqk (some ⟨g7,0,none⟩) 256;have b8:=qpy l X q a1 r hr;have d4:=qql;have a8:=HI (show Xu l slot=r by unfold Xu;rw[Z,hR,hk,hX,hr];rfl);obtain⟨LB,J⟩:∃LB,(l.map bv).toArray=LB:=⟨_,rfl⟩;obtain⟨XB,K⟩:∃XB,(X.map bv).toArray=XB:=⟨_,rfl⟩;rw[J] at c6;rw[K] at c8;rw[J,K] at b8;clear q a1 J K hX hr B F a2 Q h1 h2
   cases r;all_goals
    go_wp2_with fail
    refine Ux (by kernel_rfl) (by kernel_rfl) ?_;repeat (go_big_quiet_step (fail))
    refine wpQuiet_nil ?_;rintro _ ⟨u,rfl⟩;have Z9:=Z7.below u.ok Z7.lt;have B9:=B7.trans (u.ok.mono B7.size);have b2:=H8.below u.ok H8.lt;have c9:=b2.ld;clear a7
   ·obtain⟨V,W⟩:=qjc a8.out;go_wp2_with (first
     |(refine Fq rfl _ _ rfl w.1.size rfl Sp.zero Sp.zero rfl Z9 ?_;intro w9 H m T9)
     |fail)
    refine bodyPost_ret (q1x Tryz.results147 rfl (q46 H)) rfl ?_;rw[V,W];exact⟨rfl,B9.trans (m _ (AE _))⟩
   ·obtain⟨V,W⟩:=qlh a8.out;go_wp2_with (first
     |(refine Fq rfl _ _ rfl w.1.size rfl R Sp.zero rfl Z9 ?_;intro w9 H m T9)
     |fail)
    refine bodyPost_ret (q1x Tryz.results147 rfl (q46 H)) rfl ?_;rw[V,W,hR];exact⟨rfl,B9.trans (m _ (AE _))⟩
end
def rfV (l:LU):Vl:=⟨rdN l,decide (gN l 11 1=1),(gN l 12 2:Int),(gN l 14 4:Int)⟩
def Qda (g:Int)(l:LU)(k:Nat):Sp:=⟨g,(gN l 0 2:Int),(gN l 2 2:Int),(List.range 8).map (λi=>if i<k then rfV (l.drop (4+18*i)) else Vl.zero),by simp⟩
def rfL (l:LU):Sp:=Qda (Yz l).gen (U8 l) 8
def Vl.fits (v:Vl):Prop:=v.name.size<=10/\(0<=v.root/\v.root<65536)/\(0<=v.next/\v.next<4294967296)
theorem qcz (X Y Z:LU)(p m:Nat)(e:X.length=p)(f:Y.length=m):gN (X++(Y++Z)) p m=Qq Y:=by
 unfold gN;rw[List.drop_left' e,List.take_left' f]
theorem qqm (v:Vl)(m:v.fits)(Z:LU):gN (Xz v++Z) 0 1=v.name.size/\rdN (Xz v++Z)=v.name/\(gN (Xz v++Z) 11 1:Int)=P8 v.ro/\(gN (Xz v++Z) 12 2:Int)=v.root/\(gN (Xz v++Z) 14 4:Int)=v.next:=by
 obtain⟨h1,⟨h2,p⟩,f,q⟩:=m;have e:gN (Xz v++Z) 0 1=v.name.size:=by
  unfold Xz;have:=qcz [] (Qx (v.name.size:Int) 1) (Bq v.name++(Qx (P8 v.ro) 1++(Qx v.root 2++Qx v.next 4))++Z) 0 1 rfl (J8 _ _);rw[BG] at this;rw[AM,this];have:=q1p (v.name.size:Int) 1 (by omega) (by omega);omega
 have hd:P8 v.ro=0\/P8 v.ro=1:=by unfold P8;split<;>simp
 refine⟨e,?_,?_,?_,?_⟩
 ·unfold rdN;rw[e,Nat.min_eq_left h1];have:(Xz v++Z).drop 1=Bq v.name++((Qx (P8 v.ro) 1++(Qx v.root 2++Qx v.next 4))++Z):=by
   unfold Xz;rw[AM,List.drop_left' (J8 _ _),AM]
  rw[this];unfold Bq;rw[AM,List.take_left' (by simp)]
 ·have:Xz v++Z=(Qx (v.name.size:Int) 1++Bq v.name)++(Qx (P8 v.ro) 1++((Qx v.root 2++Qx v.next 4)++Z)):=by unfold Xz;simp only[AM]
  rw[this,qcz _ _ _ 11 1 (by simp[J8,q9q _ h1]) (J8 _ _)];exact q1p _ 1 (by omega) (by omega)
 ·have:Xz v++Z=(Qx (v.name.size:Int) 1++(Bq v.name++Qx (P8 v.ro) 1))++(Qx v.root 2++(Qx v.next 4++Z)):=by unfold Xz;simp only[AM]
  rw[this,qcz _ _ _ 12 2 (by simp[J8,q9q _ h1]) (J8 _ _)];exact q1p _ 2 h2 (by omega)
 ·have:Xz v++Z=(Qx (v.name.size:Int) 1++(Bq v.name++(Qx (P8 v.ro) 1++Qx v.root 2)))++(Qx v.next 4++Z):=by unfold Xz;simp only[AM]
  rw[this,qcz _ _ _ 14 4 (by simp[J8,q9q _ h1]) (J8 _ _)];exact q1p _ 4 f (by omega)
theorem qvn (v:Vl)(y:v.fits)(Z:LU):Og (Xz v++Z)=v/\rfV (Xz v++Z)=v/\gN (Xz v++Z) 0 1<=10:=by
 obtain⟨A,m,e,p,q⟩:=qqm v y Z;have f:decide (gN (Xz v++Z) 11 1≠0)=v.ro/\decide (gN (Xz v++Z) 11 1=1)=v.ro:=by
  unfold P8 at e
  cases u:v.ro
  ·rw[u] at e;simp at e;rw[e];decide
  ·rw[u] at e;simp at e;have:gN (Xz v++Z) 11 1=1:=by omega
   rw[this];decide
 refine⟨?_,?_,by rw[A];exact y.1⟩
 ·unfold Og;rw[m,p,q,f.1]
 ·unfold rfV;rw[m,p,q,f.2]
theorem qvo {S:Sp}(h:S.may=true):∀j,j<8->(S.at_ j).fits:=λj f=>by
 have p:=(q11 h).1;rcases qgc ((q11 h).2 j f) with e|⟨h1,h2,m⟩
 ·rw[e];exact⟨by show 0<=10;omega,⟨by show (0:Int)<=0;omega,by show (0:Int)<65536;omega⟩,by show (0:Int)<=0;omega,by show (0:Int)<4294967296;omega⟩
 ·exact⟨(qlc h1).2,⟨by omega,by omega⟩,by omega,by omega⟩
theorem qzu (S:Sp)(hn:∀j,j<8->(S.at_ j).name.size<=10)(Z:LU){k:Nat}(f:k<8):∃R,(Jd S++Z).drop (4+18*k)=Xz (S.at_ k)++R:=by
 have m:k<S.Jl.length:=by rw[S.len];exact f
 have e:Jd S=Zy S k++(Xz (S.at_ k)++(S.Jl.drop (k+1)).flatMap Xz):=by
  unfold Jd Zy;have h:=S.get f;rw[AC m] at h;have h2:S.Jl.take 8=S.Jl.take k++(S.at_ k::S.Jl.drop (k+1)):=by
   rw[<-OI h,List.getElem_cons_drop,AV,AN (by rw[S.len];omega)]
  rw[h2,List.flatMap_append,BC];simp only[AM]
 rw[e,AM,List.drop_left' (Xg S k (by omega) hn),AM];exact⟨_,rfl⟩
theorem qqn (S:Sp)(h:S.may=true)(Z:LU):(gN (Jd S++Z) 0 2:Int)=S.Qb/\(gN (Jd S++Z) 2 2:Int)=S.log:=by
 have m:=(q11 h).1;have e:Jd S++Z=[]++(Qx S.Qb 2++(Qx S.log 2++((S.Jl.take 8).flatMap Xz++Z))):=by unfold Jd Zy;simp only[AM,BG]
 have f:Jd S++Z=Qx S.Qb 2++(Qx S.log 2++((S.Jl.take 8).flatMap Xz++Z)):=by rw[e,BG]
 constructor
 ·rw[e,qcz _ _ _ 0 2 rfl (J8 _ _)];exact q1p _ 2 (by omega) (by omega)
 ·rw[f,qcz _ _ _ 2 2 (J8 _ _) (J8 _ _)];exact q1p _ 2 (by omega) (by omega)
theorem qzv {S:Sp}{slot:Int}(h:Xy S slot=true):okB (swB S slot)=true/\Yz (swB S slot)=En S slot/\rdL (swB S slot)=S/\rfL (swB S slot)=S/\(∀k,k<8->gN ((U8 (swB S slot)).drop (4+18*k)) 0 1<=10):=by
 have hm:S.may=true:=by unfold Xy at h;rw[BN] at h;exact h.1
 have m:=qq3 h;have E:(Jd S).length<=236:=by rw[q71 hm];omega
 obtain⟨A,q,G⟩:=q5a (En S slot) (Jd S) m E;have F:=(qld h).2.1;rw[F];have hn:=q70 hm;have u:=qvo hm;obtain⟨B,D⟩:=qqn S hm (List.replicate (236-(Jd S).length) 0);have y:∀k,k<8->Og ((U8 (Zn (En S slot) (Jd S))).drop (4+18*k))=S.at_ k/\rfV ((U8 (Zn (En S slot) (Jd S))).drop (4+18*k))=S.at_ k/\gN ((U8 (Zn (En S slot) (Jd S))).drop (4+18*k)) 0 1<=10:=λk m=>by
  rw[q];obtain⟨R,e⟩:=qzu S hn (List.replicate (236-(Jd S).length) 0) m;rw[e];exact qvn _ (u k m) R
 have p:∀f:LU->Vl,(∀k,k<8->f ((U8 (Zn (En S slot) (Jd S))).drop (4+18*k))=S.at_ k)->(List.range 8).map (λi=>if i<8 then f ((U8 (Zn (En S slot) (Jd S))).drop (4+18*i)) else Vl.zero)=S.Jl:=λf u=>by
  refine List.ext_getElem (by simp[S.len]) λi h1 h2=>?_
  have hi:i<8:=by simpa using h1
  simp only[List.getElem_map,List.getElem_range];rw[AA hi,u i hi];have:=S.get hi;rw[AC h2] at this;exact (OI this).symm
 refine⟨qj0 _ _ m E,A,?_,?_,λk m=>(y k m).2.2⟩
 ·refine Sp.ext' ?_ ?_ ?_ ?_
  ·show (Yz (Zn (En S slot) (Jd S))).gen=S.gen;rw[A];rfl
  ·show (gN (U8 (Zn (En S slot) (Jd S))) 0 2:Int)=S.Qb;rw[q];exact B
  ·show (gN (U8 (Zn (En S slot) (Jd S))) 2 2:Int)=S.log;rw[q];exact D
  ·exact p Og λk m=>(y k m).1
 ·refine Sp.ext' ?_ ?_ ?_ ?_
  ·show (Yz (Zn (En S slot) (Jd S))).gen=S.gen;rw[A];rfl
  ·show (gN (U8 (Zn (En S slot) (Jd S))) 0 2:Int)=S.Qb;rw[q];exact B
  ·show (gN (U8 (Zn (En S slot) (Jd S))) 2 2:Int)=S.log;rw[q];exact D
  ·exact p rfV λk m=>(y k m).2.1
theorem qvp {l:LU}{slot:Int}(h:Xu l slot=true):okB l=true/\Xy (rdL l) slot=true/\l=swB (rdL l) slot:=by
 unfold Xu at h;rw[BN,BN] at h;exact⟨h.1,h.2.1,AK h.2.2⟩
theorem qd0 {S:Sp}{slot:Int}(h:Xy S slot=true):Xu (swB S slot) slot=true/\G6 (swB S slot) slot=S:=by
 obtain⟨h0,_,h2,_⟩:=qzv h;have e:Xu (swB S slot) slot=true:=by
  unfold Xu;rw[h0,h2,h];simp
 exact⟨e,by rw[(qlh e).1,h2]⟩
theorem qyp {l:LU}{slot:Int}:(G6 l slot).gen=0/\srE l slot=3/\Xu l slot=false\/1<=(G6 l slot).gen/\srE l slot=0/\Xu l slot=true:=by
 cases h:Xu l slot
 ·obtain⟨h1,h2⟩:=qjc h;exact .inl ⟨by rw[h1];rfl,h2,rfl⟩
 ·obtain⟨h1,h2⟩:=qlh h;have e:=(qvp h).2.1;unfold Xy at e;rw[BN] at e;exact .inr ⟨by rw[h1];exact (q11 e.1).1.1,h2,rfl⟩
def snK (a b:LU):Nat:=if Xu a 0=false/\Xu b 1=false then 2 else if (G6 a 0).gen<(G6 b 1).gen then 1 else 0
def snS (a b:LU):Sp:=if snK a b=2 then Sp.zero else if snK a b=1 then G6 b 1 else G6 a 0
def snI (a b:LU):Int:=if snK a b=1 then 1 else 0
def Ip (a b:LU):Int:=if snK a b=2 then 27 else 0
theorem Qcy {a b:LU}(h1:Xu a 0=false)(h2:Xu b 1=false):snS a b=Sp.zero/\snI a b=0/\Ip a b=27:=by
 have:snK a b=2:=AA ⟨h1,h2⟩;unfold snS snI Ip;rw[this];exact⟨rfl,rfl,rfl⟩
theorem Qca {a b:LU}(h1:¬(Xu a 0=false/\Xu b 1=false))(h2:(G6 a 0).gen<(G6 b 1).gen):snS a b=G6 b 1/\snI a b=1/\Ip a b=0:=by
 have:snK a b=1:=by unfold snK;rw[AB h1,AA h2]
 unfold snS snI Ip;rw[this];exact⟨rfl,rfl,rfl⟩
theorem Qb9 {a b:LU}(h1:¬(Xu a 0=false/\Xu b 1=false))(h2:¬(G6 a 0).gen<(G6 b 1).gen):snS a b=G6 a 0/\snI a b=0/\Ip a b=0:=by
 have:snK a b=0:=by unfold snK;rw[AB h1,AB h2]
 unfold snS snI Ip;rw[this];exact⟨rfl,rfl,rfl⟩
section
def Qp (n:Nat)(g:Int):Nat:=2+Qg n*(g % 2).toNat
def U1 (n:Nat)(g:Int)(i:Nat):Hd:=⟨2,((Qp n g+i:Nat):Int),0,0,g⟩
def Wh (C:Ct)(g:Int):List (LU):=(List.range (Qg C.n)).map λi=>Zn (U1 C.n g i) (C.body (i:Int))
def Wy (g:Int):Prop:=1<=g/\g<=1099511627775
theorem q34 {n:Nat}(h1:32<=n)(h2:n<=2048)(g:Int){i:Nat}(hi:i<Qg n):2<=Qp n g/\Qp n g+i<=40/\Qp n g+i<2+2*Qg n/\Qp n g+i<n:=by
 have h0:=Int.emod_nonneg g (show (2:Int)≠0 by omega);have f:=Int.emod_lt_of_pos g (show (0:Int)<2 by omega);have m:Qg n<=18:=by unfold Qg;omega
 have p:2+2*Qg n<=n:=by unfold Qg;omega
 unfold Qp;rcases (show (g % 2).toNat=0\/(g % 2).toNat=1 by omega) with e|e<;>rw[e]<;>omega
theorem qqo {n:Nat}(h1:32<=n)(h2:n<=2048){g:Int}(e:Wy g){i:Nat}(hi:i<Qg n):(U1 n g i).ok=true:=by
 have:=q34 h1 h2 g hi;refine AL ⟨⟨by show (1:Int)<=2;omega,by show (2:Int)<=6;omega⟩,⟨by show (0:Int)<=0;omega,by show (0:Int)<=8;omega⟩,⟨?_,?_⟩,⟨by show (0:Int)<=0;omega,by show (0:Int)<=65535;omega⟩,?_,?_⟩
 ·show (0:Int)<=((Qp n g+i:Nat):Int);omega
 ·show ((Qp n g+i:Nat):Int)<=2047;omega
 ·show 0<=g;exact Int.le_trans (by omega) e.1
 ·exact e.2
def Vf (x:LU)(a:Nat)(g:Int):Bool:=Qam x 2 (a:Int)&&decide ((Yz x).count=0/\(Yz x).level=0/\(Yz x).gen=g)
theorem qlj {C:Ct}(h1:32<=C.n)(h2:C.n<=2048){g:Int}(m:Wy g){i:Nat}(hi:i<Qg C.n):Vf (Zn (U1 C.n g i) (C.body (i:Int))) (Qp C.n g+i) g=true/\(Zn (U1 C.n g i) (C.body (i:Int))).drop 20=C.body (i:Int):=by
 have f:=qqo h1 h2 m hi;have e:(C.body (i:Int)).length<=236:=by rw[Ct.U0 hi];exact AE _
 refine⟨?_,?_⟩
 ·unfold Vf;rw[qpz _ _ f e,(q5a _ _ f e).1,BN];exact⟨AL ⟨rfl,rfl⟩,AL ⟨rfl,rfl,rfl⟩⟩
 ·rw[ql8 _ _ e,Ct.U0 hi];simp
def Ad (f:Nat->LU):Sp:=snS (f 0) (f 1)
def mtB (f:Nat->LU)(n:Nat)(g:Int):List (LU):=(List.range (Qg n)).map λi=>(f (Qp n g+i)).drop 20
def O8 (f:Nat->LU)(n:Nat)(g:Int):Ct:=Ui n (mtB f n g)
open Classical in
noncomputable def Fp (f:Nat->LU) (off:Bool) (n:Nat):Int:=
 if off=true then 4 else if ¬(Ip (f 0) (f 1)=0/\(Ad f).Qb=(n:Int)) then 27 else if ¬((∀i,i<Qg n->Vf (f (Qp n (Ad f).gen+i)) (Qp n (Ad f).gen+i) (Ad f).gen=true)/\Xm (n:Int) (mtB f n (Ad f).gen)=0) then 5 else 0
theorem qqp {S:Sp}(hm:S.may=true){f:Nat->LU}(h0:f (S.gen % 2).toNat=swB S (S.gen % 2))(h1:(G6 (f ((S.gen+1) % 2).toNat) ((S.gen+1) % 2)).gen<S.gen):Ad f=S/\Ip (f 0) (f 1)=0:=by
 have A:=Int.emod_nonneg S.gen (show (2:Int)≠0 by omega);have B:=Int.emod_lt_of_pos S.gen (show (0:Int)<2 by omega);have y:Xy S (S.gen % 2)=true:=by unfold Xy;rw[hm,Bool.true_and];exact AL ⟨A,by omega⟩
 obtain⟨q,m⟩:=qd0 y;rcases (show S.gen % 2=0\/S.gen % 2=1 by omega) with e|e
 ·have u:(S.gen+1) % 2=1:=by omega
  rw[e] at h0 q m;rw[u] at h1;replace h0:f 0=swB S 0:=h0;replace h1:(G6 (f 1) 1).gen<S.gen:=h1;have h:=Qb9 (a:=f 0) (b:=f 1) (λp=>by rw[h0,q] at p;cases p.1) (by rw[h0,m];omega);exact⟨by unfold Ad;rw[h.1,h0,m],h.2.2⟩
 ·have u:(S.gen+1) % 2=0:=by omega
  rw[e] at h0 q m;rw[u] at h1;replace h0:f 1=swB S 1:=h0;replace h1:(G6 (f 0) 0).gen<S.gen:=h1;have h:=Qca (a:=f 0) (b:=f 1) (λp=>by rw[h0,q] at p;cases p.2) (by rw[h0,m];exact h1);exact⟨by unfold Ad;rw[h.1,h0,m],h.2.2⟩
theorem qzw {S:Sp}(hm:S.may=true){C:Ct}(e:C.ok)(D:C.res)(hn:S.Qb=(C.n:Int)){f:Nat->LU}(h0:f (S.gen % 2).toNat=swB S (S.gen % 2))(h1:(G6 (f ((S.gen+1) % 2).toNat) ((S.gen+1) % 2)).gen<S.gen)
  (h2:∀i,i<Qg C.n->f (Qp C.n S.gen+i)=Zn (U1 C.n S.gen i) (C.body (i:Int))):Fp f false C.n=0/\Ad f=S/\O8 f C.n S.gen=C.commit:=by
 obtain⟨q,B⟩:=qqp hm h0 h1;have u:Wy S.gen:=by
  have:=(q11 hm).1;exact⟨this.1,this.2.1⟩
 have p:mtB f C.n S.gen=C.bodies:=by
  unfold mtB Ct.bodies;refine List.map_congr_left λi hi=>?_
  have m:=List.mem_range.1 hi;rw[h2 i m,(qlj e.1.1 e.1.2 u m).2]
 obtain⟨y,A⟩:=Ct.Ov e D;refine⟨?_,q,by unfold O8;rw[p,A]⟩;unfold Fp;rw[q,AB (by decide),AB (λh=>h ⟨B,hn⟩),AB (λh=>h ⟨λi hi=>by rw[h2 i hi];exact (qlj e.1.1 e.1.2 u hi).1,by rw[p];exact y⟩)]
def Rt (k:Int)(a:Nat)(m:Nat)(g:Int):Hd:=⟨k,(a:Int),(m:Int),0,g⟩
theorem qqq (m:Nat):Y9 (List.replicate m 0)=true:=by
 unfold Y9;simp
theorem qqr (slot:Int):Xu (List.replicate 256 0) slot=false:=by
 have h:okB (List.replicate 256 0)=false:=by
  cases f:okB (List.replicate 256 0)
  ·rfl
  ·obtain⟨_,_,e,_⟩:=AK f;have:(Ar (((List.replicate 256 (0:UInt8)).drop 4).take 11)).ok=false:=by decide
   rw[this] at e
   cases e
 unfold Xu;rw[h,Bool.false_and]
end
def q12:LU:=List.replicate 256 0
def Vq (_:Nat):List Stp:=[.w 0 q12,.w 1 q12,.fl]
def Qan (n:Nat):List Stp:=Ez (Qp n 1) (Wh (Ct.zero n) 1)++[.fl]
def fmtS (n:Nat):Sp:=sp0 1 (n:Int) 0
def fmtC (n:Nat):List Stp:=[.w 1 (swB (fmtS n) 1),.fl]
def Yp (n:Nat):List Stp:=Vq n++(Qan n++fmtC n)
theorem q1f (C:Ct)(g:Int):(Wh C g).length=Qg C.n:=by unfold Wh;simp
theorem qen (C:Ct)(g:Int){i:Nat}(hi:i<Qg C.n):(Wh C g).getD i []=Zn (U1 C.n g i) (C.body (i:Int)):=by
 unfold Wh;rw[AG,BA,List.getElem?_range hi];rfl
theorem qgq {C:Ct}(_:32<=C.n)(_:C.n<=2048){g:Int}(_:Wy g){x:LU}(e:x∈Wh C g):x.length=256:=by
 unfold Wh at e;rw[List.mem_map] at e;obtain⟨i,hi,rfl⟩:=e;exact q7h _ _ (by rw[Ct.U0 (List.mem_range.1 hi)];exact AE _)
theorem q5e {n:Nat}(h1:32<=n)(h2:n<=2048):(fmtS n).may=true:=by
 refine qj1 ?_ λj m=>?_
 ·unfold Sp.hd fmtS sp0;exact AL ⟨by show (1:Int)<=1;omega,by show (1:Int)<=1099511627775;omega,by show (32:Int)<=(n:Int);omega,by show (n:Int)<=2048;omega,by show (0:Int)<=0;omega,by show (0:Int)<=(n:Int)-1;omega⟩
 ·have e:(fmtS n).at_ j=Vl.zero:=by
   unfold Sp.at_ fmtS sp0;rw[AG,List.getElem?_replicate];split<;>rfl
  have f:Vl.zero.same Vl.zero=true:=by simp[Vl.same]
  unfold Sp.ok1;rw[e,f,Bool.true_or]
theorem qBz {n:Nat}(h1:32<=n)(h2:n<=2048):∀a∈Yp n,a.ok n:=by
 intro a e;have p:q12.length=256:=by unfold q12;rw[BK]
 unfold Yp Vq Qan fmtC at e;rw[List.mem_append,List.mem_append,List.mem_append] at e;rcases e with e|(e|e)|e
 ·simp at e;rcases e with rfl|rfl|rfl
  ·exact⟨by omega,p⟩
  ·exact⟨by omega,p⟩
  ·trivial
 ·cases a with
  |w s x=>
   obtain⟨i,hi,u,q⟩:=qjb e;rw[q1f,Ct.Zd] at hi;have:=q34 h1 h2 1 hi;refine⟨by omega,?_⟩;rw[q];have f:i<(Wh (Ct.zero n) 1).length:=by rw[q1f,Ct.Zd];exact hi
   refine qgq (C:=Ct.zero n) (by rw[Ct.Zd];exact h1) (by rw[Ct.Zd];exact h2) (g:=1) ⟨by omega,by omega⟩ ?_;rw[AG,AC f];exact List.getElem_mem f
  |fl=>trivial
 ·simp at e;subst e;trivial
 ·simp at e;rcases e with rfl|rfl
  ·refine⟨by omega,?_⟩;have m:Xy (fmtS n) 1=true:=by unfold Xy;rw[q5e h1 h2,Bool.true_and];decide
   unfold swB;rw[AA m];exact q7h _ _ (by rw[q71 (q5e h1 h2)];omega)
  ·trivial
theorem qqs {n:Nat}:(Yp n).length=Qg n+6:=by
 unfold Yp Vq Qan fmtC;rw[AD,AD,AD,qem,q1f,Ct.Zd];simp;omega
theorem qqt {n:Nat}(h1:32<=n)(h2:n<=2048)(d:Nat->LU):Xi 0 (Yp n) (d 0)=q12/\Xi 1 (Yp n) (d 1)=swB (fmtS n) 1/\∀i,i<Qg n->Xi (Qp n 1+i) (Yp n) (d (Qp n 1+i))=Zn (U1 n 1 i) ((Ct.zero n).body (i:Int)):=by
 have f:∀s,s<2->spares s (Ez (Qp n 1) (Wh (Ct.zero n) 1)):=λs p=>q82 (.inl (by unfold Qp;omega))
 unfold Yp Vq Qan fmtC;refine⟨?_,?_,λi hi=>?_⟩
 ·rw[P9,P9,P9,q18 (f 0 (by omega))];rfl
 ·rw[P9,P9];rfl
 ·have e:i<(Wh (Ct.zero n) 1).length:=by rw[q1f,Ct.Zd];exact hi
  have h:=q34 h1 h2 1 hi;rw[P9,P9,P9,qgk _ _ _ _ e,qen _ _ (by rw[Ct.Zd];exact hi),Ct.Zd];exact q18 (s:=Qp n 1+i) (l:=[Stp.w 1 (swB (fmtS n) 1),.fl]) (λt x m=>by simp at m;omega) _
inductive Bk where
 |node (N:Nd)
 |bytes (k:Int) (l:LU)
def Bk.out (b:Bk)(a:Nat)(g:Int):LU:=match b with
 |.node N=>Jo N (a:Int) g
 |.bytes k l=>Zn (Rt k a l.length g) l
def Bk.fine (b:Bk):Prop:=∀(a:Nat) (g:Int),a<=2047->Wy g->(b.out a g).length=256
structure Pl where
 S:Sp
 C:Ct
 L:Nat->Option Bk
def Pl.g (P:Pl):Int:=P.S.gen+1
def Pl.Me (P:Pl)(a:Nat):Option (Nat × LU):=match P.L a with
 |some b=>if P.C.get (a:Int)=0 then none else some (a,b.out a P.g)
 |none=>none
def Pl.new (P:Pl):List (Nat × LU):=(List.range P.C.n).filterMap P.Me
def Pl.sup (P:Pl):Sp:=⟨P.g,P.S.Qb,P.S.log,P.S.Jl,P.S.len⟩
def Pl.blocks (P:Pl):List Stp:=Np P.new++Ez (Qp P.C.n P.g) (Wh P.C P.g)
def Pl.steps (P:Pl):List Stp:=Gf P.blocks (P.g % 2).toNat (swB P.sup (P.g % 2))
def Pl.done (P:Pl):Pl:=⟨P.sup,P.C.commit,λ_=>none⟩
structure Pl.ok (P:Pl):Prop where
 c:P.C.ok
 res:P.C.res
 may:P.S.may=true
 sec:P.S.Qb=(P.C.n:Int)
 gen:P.S.gen<1099511627775
 fine:∀a b,P.L a=some b->b.fine
theorem Pl.ok.Wy {P:Pl}(h:P.ok):Go.Proofs.YtnjacafcocnicaaGreatDoor.Wy P.g:=by
 have:=(q11 h.may).1;exact⟨by unfold Pl.g;omega,by have:=h.gen;unfold Pl.g;omega⟩
theorem Pl.ok.D7 {P:Pl}(h:P.ok):P.sup.may=true:=by
 obtain⟨h1,h2⟩:=q11 h.may;have e:=h.Wy;refine qj1 (AL ⟨e.1,e.2,h1.2.2⟩) λj m=>?_
 have f:P.S.ok1 j=true:=by
  have hm:=h.may;unfold Sp.may at hm;rw[BN,List.all_eq_true] at hm;exact hm.2 j (List.mem_range.2 m)
 exact f
theorem q6f {P:Pl}{a:Nat}{x:LU}:(a,x)∈P.new↔a<P.C.n/\∃b,P.L a=some b/\¬P.C.get (a:Int)=0/\x=b.out a P.g:=by
 unfold Pl.new;rw[List.mem_filterMap];constructor
 ·rintro⟨c,u,hn⟩;unfold Pl.Me at hn
  cases e:P.L c with
  |none=>rw[e] at hn;cases hn
  |some b=>
   rw[e] at hn;dsimp only at hn;split at hn
   ·cases hn
   ·rename_i f;injection hn with hn;injection hn with m p;subst m;exact⟨List.mem_range.1 u,b,e,f,p.symm⟩
 ·rintro⟨q,b,e,f,rfl⟩;refine⟨a,List.mem_range.2 q,?_⟩;unfold Pl.Me;rw[e];dsimp only;rw[AB f]
theorem qaq {P:Pl}(h:P.ok){a:Nat}{x:LU}(f:(a,x)∈P.new):a<P.C.n/\P.C.first<=a:=by
 obtain⟨h1,b,_,e,_⟩:=q6f.1 f;have:=(Ct.Vg h.res e).2.2;rw[AJ] at this;exact⟨h1,this⟩
theorem qjd (g:Int):(g % 2).toNat<2/\((g % 2).toNat:Int)=g % 2:=by omega
theorem Pl.Qaz {P:Pl}(h:P.ok):∀s∈P.steps,s.ok P.C.n:=by
 intro s f;have hn:=h.c.1;have y:=h.Wy;have D:=qjd P.g;unfold Pl.steps Gf Pl.blocks at f;rw[List.mem_append,List.mem_append] at f;rcases f with (f|f)|f
 ·cases s with
  |fl=>trivial
  |w a x=>
   unfold Np at f;rw[List.mem_map] at f;obtain⟨⟨E,F⟩,B,e⟩:=f;injection e with q p;dsimp only at q p;subst q p;obtain⟨h1,b,A,_,rfl⟩:=q6f.1 B;exact⟨h1,h.fine _ _ A _ _ (by omega) y⟩
 ·cases s with
  |fl=>trivial
  |w a x=>
   obtain⟨i,hi,q,p⟩:=qjb f;have m:=hi;rw[q1f] at m;have:=q34 hn.1 hn.2 P.g m;refine⟨by omega,?_⟩;rw[p,AG,AC hi];exact qgq hn.1 hn.2 y (List.getElem_mem hi)
 ·simp at f;rcases f with rfl|rfl|rfl
  ·trivial
  ·refine⟨by omega,?_⟩;have u:Xy P.sup (P.g % 2)=true:=by unfold Xy;rw[h.D7,Bool.true_and];exact AL ⟨by omega,by omega⟩
   unfold swB;rw[AA u];exact q7h _ _ (by rw[q71 h.D7];omega)
  ·trivial
theorem Pl.F8 (P:Pl):P.steps.length=P.new.length+Qg P.C.n+3:=by
 unfold Pl.steps;rw[qzt];unfold Pl.blocks Np;rw[AD,AF,qem,q1f]
theorem Pl.Aa {P:Pl}(_h:P.ok){s:Nat}(h1:∀x,(s,x)∉P.new)(h2:s<Qp P.C.n P.g\/Qp P.C.n P.g+Qg P.C.n<=s):spares s P.blocks:=by
 have m:spares s (Np P.new):=qcy λb q e=>h1 b.2 (by rw[<-e];exact q)
 have p:spares s (Ez (Qp P.C.n P.g) (Wh P.C P.g)):=q82 (by rw[q1f];exact h2);intro t x f;unfold Pl.blocks at f;rcases List.mem_append.1 f with f|f
 ·exact m t x f
 ·exact p t x f
theorem Pl.Po {P:Pl}(h:P.ok){s:Nat}(hs:s<2):spares s P.blocks:=by
 refine Pl.Aa h (λx e=>?_) (.inl (by unfold Qp;omega));have:=(qaq h e).2;unfold Ct.first at this
 omega
theorem Pl.Ld {P:Pl}(_h:P.ok){i:Nat}(hi:i<Qg P.C.n)(d:LU):Xi (Qp P.C.n P.g+i) P.blocks d=Zn (U1 P.C.n P.g i) (P.C.body (i:Int)):=by
 unfold Pl.blocks;rw[P9,qgk _ _ _ _ (by rw[q1f];exact hi),qen _ _ hi]
theorem Pl.Ox {P:Pl}(h:P.ok){a:Nat}{b:Bk}(ha:a<P.C.n)(hL:P.L a=some b)(hg:¬P.C.get (a:Int)=0)(d:LU):Xi a P.blocks d=b.out a P.g:=by
 have hm:(a,b.out a P.g)∈P.new:=q6f.2 ⟨ha,b,hL,hg,rfl⟩;have hn:=h.c.1;have q:=(qaq h hm).2;have m:spares a (Ez (Qp P.C.n P.g) (Wh P.C P.g)):=q82 (by
  rw[q1f];right
  by_cases h0:0<Qg P.C.n
  ·have:=q34 hn.1 hn.2 P.g (i:=Qg P.C.n-1) (by omega);unfold Ct.first at q
   omega
  ·have:Qg P.C.n=0:=by omega
   exfalso
   unfold Qg at this;omega)
 unfold Pl.blocks;rw[P9,qgl a _ _ _ hm λy u=>by
  obtain⟨_,A,f,_,e⟩:=q6f.1 u;rw[hL] at f;injection f with p;rw[e,<-p],q18 m]
structure Qbp (P:Pl)(S0:Sp)(C0:Ct)(f:Nat->LU):Prop where
 may:S0.may=true
 gen:S0.gen=P.S.gen
 sec:S0.Qb=(P.C.n:Int)
 c:C0.ok
 res:C0.res
 n:C0.n=P.C.n
 slot:f (P.S.gen % 2).toNat=swB S0 (P.S.gen % 2)
 other:(G6 (f ((P.S.gen+1) % 2).toNat) ((P.S.gen+1) % 2)).gen<P.S.gen
 area:∀i,i<Qg P.C.n->f (Qp P.C.n P.S.gen+i)=Zn (U1 P.C.n P.S.gen i) (C0.body (i:Int))
structure DM.free (D:DM):Prop where
 on:D.off=false
 Rl:D.fused=false
theorem qqu {D:DM}(h:D.free)(m:Nat):D.room m=m:=by
 unfold DM.room;rw[h.on,h.Rl];rfl
theorem qlk {D:DM}(h:D.free){l:List Stp}(q:∀a∈l,a.ok D.n):D.Zv l=0/\(D.Qj l).free/\(D.Qj l).n=D.n/\(D.Qj l).steps=D.steps+l.length/\(D.Qj l).mem=D.mem.Si l:=by
 obtain⟨h1,h2,_,m,e,_,p⟩:=qvi l D q;have f:=qqu h l.length;rw[f,List.take_length] at h1;rw[f] at e;rcases p with⟨_,j2,j3⟩|⟨j1,_,_⟩
 ·exact⟨j2,⟨j3.trans h.on,m.trans h.Rl⟩,h2,e,h1⟩
 ·omega
theorem qqv (D:DM)(s:Nat):D.mem.Zq s=D.Zq s:=rfl
theorem qzx (D:DM)(s:Nat):D.mem.Jq s=D.Jq s:=rfl
theorem qo2 (D:DM)(s:Nat):D.mem.newest s=D.newest s:=rfl
def Pl.fresh (n:Nat):Pl:=⟨fmtS n,Ct.zero n,λ_=>none⟩
theorem qvq {n:Nat}(h1:32<=n)(h2:n<=2048):(Pl.fresh n).ok:=
 ⟨Ct.Cm h1 h2,Ct.Nq n,q5e h1 h2,by show (n:Int)=((Ct.zero n).n:Int);rw[Ct.Zd],by show (1:Int)<1099511627775;omega,λa b h=>by cases h⟩
structure Sound (D:DM)(P:Pl)(S0:Sp)(C0:Ct):Prop where
 free:D.free
 n:D.n=P.C.n
 Vo:∀s,D.Zq s=[]
 holds:Qbp P S0 C0 D.Jq
theorem qll {D:DM}{n:Nat}(h1:32<=n)(h2:n<=2048)(hn:D.n=n)(h:D.free):D.Zv (Yp n)=0/\Sound (D.Qj (Yp n)) (Pl.fresh n) (fmtS n) (Ct.zero n)/\(D.Qj (Yp n)).steps=D.steps+(Qg n+6):=by
 subst hn;obtain⟨q,u,y,f,m⟩:=qlk h (qBz h1 h2);rw[qqs] at f;have p:∀s,(D.Qj (Yp D.n)).Zq s=[]:=λs=>by
  rw[<-qqv,m];unfold Yp fmtC;rw[q81,q81];rfl
 have hd:∀s,(D.Qj (Yp D.n)).Jq s=Xi s (Yp D.n) (D.newest s):=λs=>by
  have A:(D.Qj (Yp D.n)).newest s=(D.Qj (Yp D.n)).Jq s:=by unfold DM.newest;rw[p];rfl
  rw[<-A,<-qo2,m,q5d];rfl
 obtain⟨B,E,F⟩:=qqt h1 h2 D.newest;refine⟨q,⟨u,y.trans (Ct.Zd _).symm,p,?_⟩,f⟩;refine⟨q5e h1 h2,rfl,by show (D.n:Int)=((Ct.zero D.n).n:Int);rw[Ct.Zd],Ct.Cm h1 h2,Ct.Nq _,rfl,?_,?_,λi hi=>?_⟩
 ·show (D.Qj (Yp D.n)).Jq 1=swB (fmtS D.n) 1;rw[hd,E]
 ·show (G6 ((D.Qj (Yp D.n)).Jq 0) 0).gen<1;rw[hd,B];unfold q12;rw[(qjc (qqr 0)).1];decide
 ·have e:i<Qg D.n:=by
   have:(Pl.fresh D.n).C.n=D.n:=Ct.Zd _;rwa [this] at hi
  show (D.Qj (Yp D.n)).Jq (Qp (Ct.zero D.n).n 1+i)=Zn (U1 (Ct.zero D.n).n 1 i) _;rw[Ct.Zd,hd,F i e]
theorem qar {D:DM}{P:Pl}(h:P.ok){H:Sp}{R:Ct}(q:Sound D P H R) :
  D.Zv P.steps=0/\Sound (D.Qj P.steps) P.done P.sup P.C/\(D.Qj P.steps).steps=D.steps+(P.new.length+Qg P.C.n+3)/\
   (∀a b,a<P.C.n->P.L a=some b->¬P.C.get (a:Int)=0->(D.Qj P.steps).Jq a=b.out a P.g)/\(∀s,P.C.first<=s->(∀x,(s,x)∉P.new)->(D.Qj P.steps).Jq s=D.Jq s):=by
 have hn:=h.c.1;have X:=qjd P.g;have Q:=qjd P.S.gen;have B:(P.S.gen % 2).toNat≠(P.g % 2).toNat:=by unfold Pl.g;omega
 obtain⟨T,U,V,I,J⟩:=qlk q.free (l:=P.steps) (λa u=>by rw[q.n];exact Pl.Qaz h a u);rw[Pl.F8] at I;have m:=λs=>qvj P.blocks (P.g % 2).toNat (swB P.sup (P.g % 2)) D.mem s
 have W:∀s,(D.Qj P.steps).Zq s=[]:=λs=>by rw[<-qqv,J];exact (m s).1
 have hd:∀s,(D.Qj P.steps).Jq s=if s=(P.g % 2).toNat then swB P.sup (P.g % 2) else Xi s P.blocks (D.Jq s):=λs=>by
  have K:=(m s).2;rw[qcg (q.Vo s)] at K;rw[<-qzx,J];exact K
 have A:=q.holds;have f:∀{s:Nat},P.C.first<=s->s≠(P.g % 2).toNat:=λ{s} y=>by unfold Ct.first at y;omega
 refine⟨T,⟨U,V.trans q.n,W,?_⟩,I,λa b u M O=>?_,λs y F=>?_⟩
 ·refine⟨h.D7,rfl,h.sec,h.c,h.res,rfl,?_,?_,λi hi=>?_⟩
  ·show (D.Qj P.steps).Jq (P.g % 2).toNat=swB P.sup (P.g % 2);rw[hd,AA rfl]
  ·show (G6 ((D.Qj P.steps).Jq ((P.g+1) % 2).toNat) ((P.g+1) % 2)).gen<P.g;have e:(P.g+1) % 2=P.S.gen % 2:=by unfold Pl.g;omega
   rw[e,hd,AB B,q18 (Pl.Po h (by omega)),A.slot];have G:Xy H (P.S.gen % 2)=true:=by unfold Xy;rw[A.may,Bool.true_and];exact AL ⟨by omega,by omega⟩
   rw[(qd0 G).2,A.gen];unfold Pl.g;omega
  ·have p:i<Qg P.C.n:=hi;have:=q34 hn.1 hn.2 P.g p;show (D.Qj P.steps).Jq (Qp P.C.n P.g+i)=Zn (U1 P.C.n P.g i) (P.C.body (i:Int));rw[hd,AB (by omega),Pl.Ld h p]
 ·have hm:(a,b.out a P.g)∈P.new:=q6f.2 ⟨u,b,M,O,rfl⟩;rw[hd,AB (f (qaq h hm).2),Pl.Ox h u M O]
 ·have E:s<Qp P.C.n P.g\/Qp P.C.n P.g+Qg P.C.n<=s:=by
   right
   unfold Ct.first at y
   unfold Qp;rcases (show (P.g % 2).toNat=0\/(P.g % 2).toNat=1 by omega) with e|e<;>rw[e]<;>omega
  rw[hd,AB (f y),q18 (Pl.Aa h F E)]
theorem q94 {D:DM}{P:Pl}{p:Sp}{m:Ct}(q:Sound D P p m):Fp D.newest false D.n=0/\Ad D.newest=p/\O8 D.newest D.n P.S.gen=m.commit:=by
 have H:=q.holds;have e:∀s,D.newest s=D.Jq s:=λs=>by unfold DM.newest;rw[q.Vo];rfl
 have u:=qzw (S:=p) H.may (C:=m) H.c H.res (by rw[H.n];exact H.sec) (f:=D.newest) (by rw[H.gen,e];exact H.slot) (by rw[H.gen,e];exact H.other)
  (λi hi=>by rw[H.n] at hi ⊢;rw[H.gen,e];exact H.area i hi)
 rw[H.n,H.gen] at u;rw[q.n];exact u
theorem Ct.Rn {C:Ct}{k:Nat}(h:C.pick=some k)(j:Nat)(hj:j<C.n):C.alloc.may j=if j=k then false else C.may j:=by
 obtain⟨h1,h2,m,p,_⟩:=Ct.Yw h;rw[(Ct.Yd h).2.2,Ct.O7,Ct.O7,Ct.Dj (C.Zk k 1),q6e C k 1 j hj];have e:nm (C.put k 1).done j=nm C.done j:=rfl;rw[e];by_cases f:j=k
 ·rw[AA f,AA f];exact AH (by rintro⟨_,q,_⟩;omega)
 ·rw[AB f,AB f]
theorem Ct.Ib {C:Ct}{k:Nat}(h:C.pick=some k):∀m,m<=C.n->C.alloc.Vw m+(if k<m then 1 else 0)=C.Vw m:=by
 obtain⟨h1,h2,u,y,_⟩:=Ct.Yw h;have p:C.may k=true:=by rw[Ct.O7];exact AL ⟨h2,u,y⟩
 intro m;induction m with
 |zero=>intro _;rfl
 |succ m f=>
  intro hm;have f:=f (by omega);rw[Ct.Bh,Ct.Bh,Ct.Rn h m (by omega)];by_cases e:m=k
  ·subst e;rw[AA rfl,AB (by decide),AA (by omega),AA p];rw[AB (by omega)] at f;omega
  ·rw[AB e];by_cases q:k<m
   ·rw[AA q] at f;rw[AA (show k<m+1 by omega)];omega
   ·rw[AB q] at f;rw[AB (show ¬k<m+1 by omega)];omega
theorem Ct.Dh {C:Ct}{k:Nat}(h:C.pick=some k):C.alloc.free+1=C.free:=by
 have e:=(Ct.Yw h).1;have:=Ct.Ib h C.n (AE _);rw[AA e] at this;unfold Ct.free;rw[C.Ic];exact this
theorem Ct.Du {C:Ct}(h:0<C.free):∃k,C.pick=some k:=by
 cases e:C.pick with
 |some k=>exact⟨k,rfl⟩
 |none=>have:=Ct.Kv e;omega
def Pl.lay (P:Pl)(b:Bk):Pl:=match P.C.pick with
 |some a=>⟨P.S,P.C.alloc,upd P.L a (some b)⟩
 |none=>P
theorem q49 {P:Pl}{a:Nat}(h:P.C.pick=some a)(b:Bk):P.lay b=⟨P.S,P.C.alloc,upd P.L a (some b)⟩:=by unfold Pl.lay;rw[h]
theorem qyq {P:Pl}(h:P.ok){b:Bk}(p:b.fine):(P.lay b).ok:=by
 cases m:P.C.pick with
 |none=>
  have:P.lay b=P:=by unfold Pl.lay;rw[m]
  rw[this];exact h
 |some a=>
  rw[q49 m];refine⟨Ct.Qah h.c,Ct.Ro h.res,h.may,by show P.S.Qb=(P.C.alloc.n:Int);rw[Ct.Ic];exact h.sec,h.gen,λc d f=>?_⟩;replace f:upd P.L a (some b) c=some d:=f;by_cases e:c=a
  ·subst e;rw[Ci] at f;injection f with f;exact f▸p
  ·rw[Bv _ _ e] at f;exact h.fine c d f
theorem qvr {P:Pl}(b:Bk):(P.lay b).C.n=P.C.n:=by
 unfold Pl.lay;split
 ·exact P.C.Ic
 ·rfl
theorem qC0 {P:Pl}(b:Bk):(P.lay b).S=P.S:=by
 unfold Pl.lay;split<;>rfl
theorem qqw {D:DM}{P:Pl}{p:Sp}{m:Ct}(h:Sound D P p m)(b:Bk):Sound D (P.lay b) p m:=by
 have e:=qvr (P:=P) b;have f:=qC0 (P:=P) b;refine⟨h.free,h.n.trans e.symm,h.Vo,?_⟩;have H:=h.holds;exact⟨H.may,by rw[f];exact H.gen,by rw[e];exact H.sec,H.c,H.res,by rw[e];exact H.n,by rw[f];exact H.slot,by rw[f];exact H.other,by rw[e,f];exact H.area⟩
theorem qje {P:Pl}{a:Nat}(h:P.C.pick=some a)(b:Bk)(c:Nat)(f:c<P.C.n):(P.lay b).C.get (c:Int)=if c=a then 1 else P.C.get (c:Int):=by
 rw[q49 h];show P.C.alloc.get (c:Int)=_;rw[(Ct.Yd h).2.2];unfold Ct.get;rw[C_put_n_get f,q6e P.C a 1 c f];by_cases e:c=a
 ·rw[AA e,AA e]
 ·rw[AB e,AB e,AA (show 0<=(c:Int)/\(c:Int)<(P.C.n:Int) by omega),AJ]
 where
 C_put_n_get {C:Ct} {k:Nat} {x:Int} {c:Nat} (f:c<C.n):(if 0<=(c:Int)/\(c:Int)<((C.put k x).n:Int) then nm (C.put k x).now (c:Int).toNat else 0)=nm (C.put k x).now c:=by
  rw[C.Zk,AA ⟨by omega,by omega⟩,AJ]
theorem qjf {P:Pl}{a:Nat}(h:P.C.pick=some a)(b:Bk)(c:Nat):(P.lay b).L c=if c=a then some b else P.L c:=by
 rw[q49 h];rfl
section
def q3r (A:OA)(n c:Nat)(a:LU)(B:OA)(m d:Nat)(b:LU)(w:WD):Prop:=
  Calls prog 83 #[.slice A n c,.slice B m d] w λe f=>e=.returned (.tuple #[.agg (snS a b).vs.toArray,.int .i64 (snI a b),.int .i64 (Ip a b)])/\Below w.1.size w f
attribute [local go_sem ↓] q1w q6z q5b q9r qli
theorem q83 (A:OA)(n c:Nat)(a:LU)(B:OA)(m d:Nat)(b:LU)(w:WD)(ha:Sl w A n c a)(hb:Sl w B m d b)(ht:Tab w):q3r A n c a B m d b w:=by
 unfold q3r;have b6:=qag true;have b7:=qlb;have Z1:=SB.new w Sp.zero 103;have b1:Below w.1.size w (w.alloc (.cells Sp.zero.vs.toArray 103)):=Qi;go_enter func83,ntmps83
 go_wp2_with fail
 generalize w.alloc (.cells Sp.zero.vs.toArray 103)=w1 at Z1 b1 ⊢;refine Calls.mono (qgp A n c a 0 w1 (ha.below b1) (ht.below b1 ht.1)) ?_;rintro e w2 ⟨rfl,a2⟩;have Z2:=Z1.below a2 Z1.lt;have B2:=b1.trans (a2.mono b1.size);have H2:=SB.new w2 Sp.zero 103;have b2:Below w2.1.size w2 (w2.alloc (.cells Sp.zero.vs.toArray 103)):=Qi;have D:=qyp (l:=a) (slot:=0);have T:=qyp (l:=b) (slot:=1);have K2:=λh1 h2=>Qcy (a:=a) (b:=b) h1 h2
 have K1:=λh1 h2=>Qca (a:=a) (b:=b) h1 h2
 have K0:=λh1 h2=>Qb9 (a:=a) (b:=b) h1 h2
 obtain⟨SA,a7⟩:∃SA,G6 a 0=SA:=⟨_,rfl⟩;obtain⟨P,a1⟩:∃P,G6 b 1=P:=⟨_,rfl⟩;rw[a7] at D K1 K0 ⊢;rw[a1] at T K1 K0;clear a7;have KK:=HI (And.intro K2 (And.intro K1 K0));have Ka:=HI D;have Kb:=HI T;clear K2 K1 K0 D T;obtain⟨ea,b0⟩:∃ea,srE a 0=ea:=⟨_,rfl⟩;rw[b0];clear b0;go_wp2_with (first
  |(refine Fq rfl _ _ rfl w2.1.size rfl SA Sp.zero rfl H2 ?_;intro w3 H3 a8 T3;have Y:=b2.trans (a8 _ (AE _));have B3:=B2.trans (Y.mono B2.size);have Z3:=Z2.below Y Z2.lt)
  |fail)
 refine Calls.mono (qgp B m d b 1 w3 (hb.below B3) (ht.below B3 ht.1)) ?_;rw[a1];rintro e M ⟨rfl,R⟩;have J:=H3.below R H3.lt;have Q:=Z3.below R Z3.lt;have U:=B3.trans (R.mono B3.size);have O:=SB.new M Sp.zero 103;have b4:Below M.1.size M (M.alloc (.cells Sp.zero.vs.toArray 103)):=Qi;obtain⟨eb,b3⟩:∃eb,srE b 1=eb:=⟨_,rfl⟩;rw[b3];clear b3 a1 H2 b2 a8 T3 Y B3 Z3 H3 R Z2 B2 a2 Z1 b1;obtain⟨fa,H⟩:∃fa,SA.gen=fa:=⟨_,rfl⟩;obtain⟨K,I⟩:∃K,P.gen=K:=⟨_,rfl⟩;have y:=HI H;have G:=HI I;obtain⟨bk,b5⟩:∃bk,w2.1.size=bk:=⟨_,rfl⟩;rw[b5] at J ⊢;have b9:w.1.size<M.1.size:=Q.lt;have b8:bk<M.1.size:=J.lt;rcases Ka.out with D|D
 ·rcases Kb.out with T|T
  ·have p:=KK.out.1 D.2.2 T.2.2;have e1:fa=0:=by rw[<-y.out];exact D.1
   have e2:K=0:=by rw[<-G.out];exact T.1
   subst e1 e2;go_wp2_with (first
    |(refine Fq rfl _ _ rfl M.1.size rfl P Sp.zero rfl O ?_;intro w5 E q T5;have f:=b4.trans (q _ (AE _));have V:=U.trans (f.mono U.size);have X:=Q.below f Q.lt;have F:=J.below f J.lt;have Z:=E.c0;have g6:=F.c0;have l5:=E.ld;have l6:=F.ld;rw[I] at Z;rw[H] at g6)
    |(refine Fq rfl _ _ rfl w.1.size rfl Sp.zero Sp.zero rfl X ?_;intro w9 W u T9)
    |fail)
   refine bodyPost_ret (q0x Tryz.results83 rfl (q46 W)) rfl ?_;rw[p.1,p.2.1,p.2.2];exact⟨rfl,V.trans (u _ (AE _))⟩
  ·have e1:fa=0:=by rw[<-y.out];exact D.1
   have e2:1<=K:=by rw[<-G.out];exact T.1
   have p:=KK.out.2.1 (by rw[D.2.2,T.2.2];simp) (by rw[y.out,G.out];omega);subst e1;have e3:¬K=0:=by omega
   have e4:(0:Int)<K:=by omega
   have e5:(K==0)=false:=by simpa using e3
   go_wp2_with (first
    |(refine Fq rfl _ _ rfl M.1.size rfl P Sp.zero rfl O ?_;intro w5 E q T5;have f:=b4.trans (q _ (AE _));have V:=U.trans (f.mono U.size);have X:=Q.below f Q.lt;have F:=J.below f J.lt;have Z:=E.c0;have g6:=F.c0;have l5:=E.ld;have l6:=F.ld;rw[I] at Z;rw[H] at g6)
    |(refine Fq rfl _ _ rfl w.1.size rfl P Sp.zero rfl X ?_;intro w9 W u T9)
    |fail)
   refine bodyPost_ret (q0x Tryz.results83 rfl (q46 W)) rfl ?_;rw[p.1,p.2.1,p.2.2];exact⟨rfl,V.trans (u _ (AE _))⟩
 ·have e1:1<=fa:=by rw[<-y.out];exact D.1
  have e3:¬fa=0:=by omega
  have e5:(fa==0)=false:=by simpa using e3
  by_cases a6:fa<K
  ·have p:=KK.out.2.1 (by rw[D.2.2];simp) (by rw[y.out,G.out];exact a6);have e6:decide (fa<K)=true:=AL a6;go_wp2_with (first
    |(refine Fq rfl _ _ rfl M.1.size rfl P Sp.zero rfl O ?_;intro w5 E q T5;have f:=b4.trans (q _ (AE _));have V:=U.trans (f.mono U.size);have X:=Q.below f Q.lt;have F:=J.below f J.lt;have Z:=E.c0;have g6:=F.c0;have l5:=E.ld;have l6:=F.ld;rw[I] at Z;rw[H] at g6)
    |(refine Fq rfl _ _ rfl w.1.size rfl P Sp.zero rfl X ?_;intro w9 W u T9)
    |fail)
   refine bodyPost_ret (q0x Tryz.results83 rfl (q46 W)) rfl ?_;rw[p.1,p.2.1,p.2.2];exact⟨rfl,V.trans (u _ (AE _))⟩
  ·have p:=KK.out.2.2 (by rw[D.2.2];simp) (by rw[y.out,G.out];omega);have e6:decide (fa<K)=false:=AH a6;go_wp2_with (first
    |(refine Fq rfl _ _ rfl M.1.size rfl P Sp.zero rfl O ?_;intro w5 E q T5;have f:=b4.trans (q _ (AE _));have V:=U.trans (f.mono U.size);have X:=Q.below f Q.lt;have F:=J.below f J.lt;have Z:=E.c0;have g6:=F.c0;have l5:=E.ld;have l6:=F.ld;rw[I] at Z;rw[H] at g6)
    |(refine Fq rfl _ _ rfl w.1.size rfl SA Sp.zero rfl X ?_;intro w9 W u T9)
    |fail)
   refine bodyPost_ret (q0x Tryz.results83 rfl (q46 W)) rfl ?_;rw[p.1,p.2.1,p.2.2];exact⟨rfl,V.trans (u _ (AE _))⟩
end
