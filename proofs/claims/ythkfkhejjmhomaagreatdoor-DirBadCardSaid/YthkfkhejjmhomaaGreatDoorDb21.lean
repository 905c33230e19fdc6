/- Superblocks: the code's Read -/
import Derived.Test.YthkfkhejjmhomaaGreatDoorDb13
import Derived.Test.YthkfkhejjmhomaaGreatDoorDb18
import Derived.Test.YthkfkhejjmhomaaGreatDoorDb20
import Derived.Laws.Cover3
namespace Go.Proofs.YthkfkhejjmhomaaGreatDoor
open Go Go.RowKit Go.Proofs
set_option maxHeartbeats 4000000
set_option maxRecDepth 100000
section
def rdL (l:List UInt8):Sp:=rdS (Yk l).gen (Un l)
def Xg (l:List UInt8)(slot:Int):Bool:=okB l&&(Yi (rdL l) slot&&decide (l=swB (rdL l) slot))
def Gv (l:List UInt8)(slot:Int):Sp:=if Xg l slot=true then rdL l else Sp.zero
def srE (l:List UInt8)(slot:Int):Int:=if Xg l slot=true then 0 else 3
theorem qhe {l:List UInt8}{slot:Int}(h:Xg l slot=false):Gv l slot=Sp.zero/\srE l slot=3:=by
 unfold Gv srE;rw[h];exact⟨rfl,rfl⟩
theorem qj5 {l:List UInt8}{slot:Int}(h:Xg l slot=true):Gv l slot=rdL l/\srE l slot=0:=by
 unfold Gv srE;rw[if_pos h,if_pos h];exact⟨rfl,rfl⟩
def ldX (p:Value):Sem Value:=Instr.loadAt 288 p
theorem qj6 (p:Value):Instr.loadAt 288 p=ldX p:=rfl
theorem q9v {P:Program}(w:World)(a:Addr)(ty:TypeId)(e:List Value)(d:TypeDesc)(p:∀(j:Nat) v,e[j]?=some v->w.cell? (a.add j)=some v)
  (A:P.underlying ty=some d) (hd:d.isRow=true) (hi:(P.info? ty).map (·.size)=some e.length) :
  (loadVar ty a).run P w=.ok (.agg e.toArray) w:=by
 have u:(loadCells a e.length).run P w=.ok e.toArray w:=run_loadCells_list (P:=P) w a e p
 cases m:P.info? ty with
 |none=>simp[m] at hi
 |some i=>
  have y:i.size=e.length:=by simpa [m] using hi
  have f:(isAgg ty).run P w=.ok true w:=by
   unfold isAgg;rw[Sem.run_bind,run_underlying A w]
   cases d<;>simp_all
  simp[loadVar,Sem.run_bind,f,sizeOf,typeInfo,m,y,u]
theorem qod {w:World}{d:Addr}{c:Nat}{l:List UInt8}(h:Sl w (some d) 256 c l):(ldX (.pointer (some d))).run Tryz.prog w=.ok (.agg (l.map bv).toArray) w:=by
 have p:=h.len;unfold ldX;simp only[Instr.loadAt,Instr.sureAddr,Sem.run_bind,Sem.run_pure,Result.andThen_ok,q9v w d 288 (l.map bv) _ (λj v u=>by
  obtain⟨f,e,_,m⟩:=h.2.2.2 j v u;injection e with e;subst e;exact m) Tryz.underlying288 rfl (by rw[List.length_map,p];kernel_rfl)]
theorem qoe (d:Option Addr)(c:Nat)(w:World):(Instr.arrayAt 288 (.slice d 256 c)).run Tryz.prog w=.ok (.pointer d) w:=
 run_arrayAt w 288 _ 256 d 256 c Tryz.underlying288 (Nat.le_refl _)
theorem qof (d:BinOp)(x y:Operand)(xs e:Array Value)(w:World):(eqGuard d 288 x y (.agg xs) (.agg e)).run Tryz.prog w=.ok () w:=
 run_eqGuard_agg w d 288 x y xs e (by kernel_rfl)
theorem qyr {l:List UInt8}(h:okB l=true):l.length=256:=(of_decide_eq_true h).1
def qf3 (A:Option Addr)(n c:Nat)(l:List UInt8)(slot:Int)(w:World):Prop:=
  Calls Tryz.prog 221 #[.slice A n c,.int .i64 slot] w λe d=>e=.returned (.tuple #[.agg (Gv l slot).vs.toArray,.int .i64 (srE l slot)])/\Below w.1.size w d
attribute [local go_sem ↓] q1n q6c q4s q8s qj6
theorem qf4 (A:Option Addr)(n c:Nat)(l:List UInt8)(slot:Int)(w:World)(hs:Sl w A n c l)(ht:Tab w):qf3 A n c l slot w:=by
 unfold qf3;have d2:=qd3 true;have d3:=qiv;have Z1:=SB.new w Sp.zero 120;have Z:Below w.1.size w (w.alloc (.cells Sp.zero.vs.toArray 120)):=Qk;go_enter Tryz.func221,Tryz.ntmps221
 go_wp2_with fail
 generalize w.alloc (.cells Sp.zero.vs.toArray 120)=w1 at Z1 Z ⊢;refine (q6y A n c l w1 (hs.below Z) (ht.below Z ht.1)).mono ?_;rintro e G ⟨A3,n3,c3,rfl,D,M⟩;have Z3:=Z1.below M Z1.lt;have B3:=Z.trans (M.mono Z.size);have HZ:=HB.zero G 198;have U:G.1.size<(G.alloc (.cells #[.int .i64 0,.int .i64 0,.int .i64 0,.int .i64 0,.int .i64 0] 198)).1.size:=by simp
 have b3:Below G.1.size G (G.alloc (.cells #[.int .i64 0,.int .i64 0,.int .i64 0,.int .i64 0,.int .i64 0] 198)):=Qk;obtain⟨o,ho⟩:∃o,okB l=o:=⟨_,rfl⟩
 cases o
 ·obtain⟨W,Y⟩:=qhe (l:=l) (slot:=slot) (by unfold Xg;rw[ho];rfl);have hE:=(qif ho).2.2;rw[hE];go_wp2_with (first
   |(refine Ph rfl _ _ rfl G.1.size rfl (Yk l) _ rfl HZ U ?_;intro w4 P m T4;have B4:=B3.trans ((b3.trans (m _ (Nat.le_refl _))).mono B3.size);have Z4:=Z3.below (b3.trans (m _ (Nat.le_refl _))) Z3.lt)
   |(refine Eu rfl _ _ rfl w.1.size rfl Sp.zero Sp.zero rfl Z4 ?_;intro w9 H f T9)
   |fail)
  refine bodyPost_ret (q1o Tryz.results221 rfl (q3k H)) rfl ?_;rw[W,Y];exact⟨rfl,B4.trans (f _ (Nat.le_refl _))⟩
 ·have hE:=(q6x ho).2.2;rw[hE];have hB:Un l=l.drop 20:=(q6x ho).2.1;have p:=qyr ho;go_wp2_with (first
   |(refine Ph rfl _ _ rfl G.1.size rfl (Yk l) _ rfl HZ U ?_;intro w4 P m T4;have y:=b3.trans (m _ (Nat.le_refl _));have B4:=B3.trans (y.mono B3.size);have Z4:=Z3.below y Z3.lt;have g4:=P 4 _ rfl)
   |fail)
  have E:=D.sl.below y;clear P m T4 HZ U b3 D Z3 B3 M Z1 Z y;have T:Sl w4 A3 n3 c3 (Un l):=E;have b4:n3=236:=by have:=T.len;rw[hB,List.length_drop,p] at this;omega
  have b5:148<=n3:=by omega
  have b7:n3<=1000:=by omega
  clear b4 E hB;refine (qd4 (Yk l).gen A3 n3 c3 (Un l) w4 T b5 b7).mono ?_;rintro e w5 ⟨rfl,O⟩;have Z5:=Z4.below O Z4.lt;have B5:=B4.trans (O.mono B4.size);have hf:=qsn (Yk l).gen (Un l);have b0:rdS (Yk l).gen (Un l)=rdL l:=rfl;rw[b0] at hf ⊢;obtain⟨R,hR⟩:∃R,rdL l=R:=⟨_,rfl⟩;rw[hR] at hf ⊢;clear b0 O T Z4 B4 g4;have H6:=SB.new w5 Sp.zero 120;have b6:Below w5.1.size w5 (w5.alloc (.cells Sp.zero.vs.toArray 120)):=Qk;go_wp2_with (first
   |(refine Eu rfl _ _ rfl w5.1.size rfl R Sp.zero rfl H6 ?_;intro w6 H7 d T7;have I:=b6.trans (d _ (Nat.le_refl _));have B6:=B5.trans (I.mono B5.size);have Z6:=Z5.below I Z5.lt;have a6:=H7.ld)
   |fail)
  clear H6 b6 d T7 I;refine (q74 R slot hf w6 (ht.below B6 ht.1)).mono ?_;rintro e w7 ⟨A7,n7,c7,rfl,F,a2,d⟩;have Z7:=Z6.below d Z6.lt;have B7:=B6.trans (d.mono B6.size);have H8:=H7.below d H7.lt;obtain⟨k,hk⟩:∃k,Yi R slot=k:=⟨_,rfl⟩;have a7:=H8.ld;clear a6 Z6 H7 d B6
  cases k
  ·obtain⟨h1,h2⟩:=qwh hk;obtain⟨W,Y⟩:=qhe (l:=l) (slot:=slot) (by unfold Xg;rw[hR,hk,Bool.false_and,Bool.and_false]);rw[h1];go_wp2_with fail
   refine Uk (by kernel_rfl) (by kernel_rfl) ?_;repeat (go_big_quiet_step (fail))
   refine wpQuiet_nil ?_;rintro _ ⟨u,rfl⟩;have Z9:=Z7.below u.ok Z7.lt;have B9:=B7.trans (u.ok.mono B7.size);go_wp2_with (first
    |(refine Eu rfl _ _ rfl w.1.size rfl Sp.zero Sp.zero rfl Z9 ?_;intro w9 H f T9)
    |fail)
   refine bodyPost_ret (q1o Tryz.results221 rfl (q3k H)) rfl ?_;rw[W,Y];exact⟨rfl,B9.trans (f _ (Nat.le_refl _))⟩
  ·obtain⟨h1,h2,_,_⟩:=qix hk;obtain⟨g7,rfl,rfl,rfl⟩:=a2 hk;rw[h1];have Q:=hs.below B7;have b9:n=256:=by have:=Q.len;omega
   subst b9;obtain⟨ad,rfl,_⟩:=hs.cell (k:=0) (by omega);have B:=F.sl;obtain⟨X,hX⟩:∃X,swB R slot=X:=⟨_,rfl⟩;rw[hX] at B;have a1:=B.len;obtain⟨r,hr⟩:∃r,decide (l=X)=r:=⟨_,rfl⟩;have c6:∀u:Grown w7,(ldX (.pointer (some ad))).run Tryz.prog u.to=.ok (.agg (l.map bv).toArray) u.to:=λu=>qod (Q.below u.ok)
   have c8:∀u:Grown w7,(ldX (.pointer (some ⟨g7,0,none⟩))).run Tryz.prog u.to=.ok (.agg (X.map bv).toArray) u.to:=λu=>qod (B.below u.ok)
   have d0:=qoe (some ad) c;have d1:=qoe (some ⟨g7,0,none⟩) 256;have b8:=qnk l X p a1 r hr;have d4:=qof;have a8:=Lib.hid (show Xg l slot=r by unfold Xg;rw[ho,hR,hk,hX,hr];rfl);obtain⟨LB,J⟩:∃LB,(l.map bv).toArray=LB:=⟨_,rfl⟩;obtain⟨XB,K⟩:∃XB,(X.map bv).toArray=XB:=⟨_,rfl⟩;rw[J] at c6;rw[K] at c8;rw[J,K] at b8;clear p a1 J K hX hr B F a2 Q h1 h2
   cases r;all_goals
    go_wp2_with fail
    refine Uk (by kernel_rfl) (by kernel_rfl) ?_;repeat (go_big_quiet_step (fail))
    refine wpQuiet_nil ?_;rintro _ ⟨u,rfl⟩;have Z9:=Z7.below u.ok Z7.lt;have B9:=B7.trans (u.ok.mono B7.size);have b2:=H8.below u.ok H8.lt;have c9:=b2.ld;clear a7
   ·obtain⟨W,Y⟩:=qhe a8.out;go_wp2_with (first
     |(refine Eu rfl _ _ rfl w.1.size rfl Sp.zero Sp.zero rfl Z9 ?_;intro w9 H f T9)
     |fail)
    refine bodyPost_ret (q1o Tryz.results221 rfl (q3k H)) rfl ?_;rw[W,Y];exact⟨rfl,B9.trans (f _ (Nat.le_refl _))⟩
   ·obtain⟨W,Y⟩:=qj5 a8.out;go_wp2_with (first
     |(refine Eu rfl _ _ rfl w.1.size rfl R Sp.zero rfl Z9 ?_;intro w9 H f T9)
     |fail)
    refine bodyPost_ret (q1o Tryz.results221 rfl (q3k H)) rfl ?_;rw[W,Y,hR];exact⟨rfl,B9.trans (f _ (Nat.le_refl _))⟩
end
def rfV (l:List UInt8):Vl:=⟨rdN l,decide (gN l 11 1=1),(gN l 12 2:Int),(gN l 14 4:Int)⟩
def Qcw (g:Int)(l:List UInt8)(k:Nat):Sp:=⟨g,(gN l 0 2:Int),(gN l 2 2:Int),(List.range 8).map (λi=>if i<k then rfV (l.drop (4+18*i)) else Vl.zero),by simp⟩
def rfL (l:List UInt8):Sp:=Qcw (Yk l).gen (Un l) 8
def Vl.fits (v:Vl):Prop:=v.name.size<=10/\(0<=v.root/\v.root<65536)/\(0<=v.next/\v.next<4294967296)
theorem qbp (X Y Z:List UInt8)(p m:Nat)(d:X.length=p)(e:Y.length=m):gN (X++(Y++Z)) p m=Qw Y:=by
 unfold gN;rw[List.drop_left' d,List.take_left' e]
theorem qog (v:Vl)(f:v.fits)(Z:List UInt8):gN (Xl v++Z) 0 1=v.name.size/\rdN (Xl v++Z)=v.name/\(gN (Xl v++Z) 11 1:Int)=Nq v.ro/\(gN (Xl v++Z) 12 2:Int)=v.root/\(gN (Xl v++Z) 14 4:Int)=v.next:=by
 obtain⟨h1,⟨h2,m⟩,e,p⟩:=f;have d:gN (Xl v++Z) 0 1=v.name.size:=by
  unfold Xl;have:=qbp [] (Qy (v.name.size:Int) 1) (Ar v.name++(Qy (Nq v.ro) 1++(Qy v.root 2++Qy v.next 4))++Z) 0 1 rfl (Xf _ _);rw[List.nil_append] at this;rw[List.append_assoc,this];have:=Pn (v.name.size:Int) 1 (by omega) (by omega);omega
 have hd:Nq v.ro=0\/Nq v.ro=1:=by unfold Nq;split<;>simp
 refine⟨d,?_,?_,?_,?_⟩
 ·unfold rdN;rw[d,Nat.min_eq_left h1];have:(Xl v++Z).drop 1=Ar v.name++((Qy (Nq v.ro) 1++(Qy v.root 2++Qy v.next 4))++Z):=by
   unfold Xl;rw[List.append_assoc,List.drop_left' (Xf _ _),List.append_assoc]
  rw[this];unfold Ar;rw[List.append_assoc,List.take_left' (by simp)]
 ·have:Xl v++Z=(Qy (v.name.size:Int) 1++Ar v.name)++(Qy (Nq v.ro) 1++((Qy v.root 2++Qy v.next 4)++Z)):=by unfold Xl;simp only[List.append_assoc]
  rw[this,qbp _ _ _ 11 1 (by simp[Xf,q8r _ h1]) (Xf _ _)];exact Pn _ 1 (by omega) (by omega)
 ·have:Xl v++Z=(Qy (v.name.size:Int) 1++(Ar v.name++Qy (Nq v.ro) 1))++(Qy v.root 2++(Qy v.next 4++Z)):=by unfold Xl;simp only[List.append_assoc]
  rw[this,qbp _ _ _ 12 2 (by simp[Xf,q8r _ h1]) (Xf _ _)];exact Pn _ 2 h2 (by omega)
 ·have:Xl v++Z=(Qy (v.name.size:Int) 1++(Ar v.name++(Qy (Nq v.ro) 1++Qy v.root 2)))++(Qy v.next 4++Z):=by unfold Xl;simp only[List.append_assoc]
  rw[this,qbp _ _ _ 14 4 (by simp[Xf,q8r _ h1]) (Xf _ _)];exact Pn _ 4 e (by omega)
theorem qt7 (v:Vl)(y:v.fits)(Z:List UInt8):Il (Xl v++Z)=v/\rfV (Xl v++Z)=v/\gN (Xl v++Z) 0 1<=10:=by
 obtain⟨A,f,d,m,p⟩:=qog v y Z;have e:decide (gN (Xl v++Z) 11 1≠0)=v.ro/\decide (gN (Xl v++Z) 11 1=1)=v.ro:=by
  unfold Nq at d
  cases u:v.ro
  ·rw[u] at d;simp at d;rw[d];decide
  ·rw[u] at d;simp at d;have:gN (Xl v++Z) 11 1=1:=by omega
   rw[this];decide
 refine⟨?_,?_,by rw[A];exact y.1⟩
 ·unfold Il;rw[f,m,p,e.1]
 ·unfold rfV;rw[f,m,p,e.2]
theorem qt8 {S:Sp}(h:S.may=true):∀j,j<8->(S.at_ j).fits:=λj d=>by
 have m:=(Tc h).1;rcases qeo ((Tc h).2 j d) with e|⟨h1,h2,f⟩
 ·rw[e];exact⟨by show 0<=10;omega,⟨by show (0:Int)<=0;omega,by show (0:Int)<65536;omega⟩,by show (0:Int)<=0;omega,by show (0:Int)<4294967296;omega⟩
 ·exact⟨(qiw h1).2,⟨by omega,by omega⟩,by omega,by omega⟩
theorem qwy (S:Sp)(hn:∀j,j<8->(S.at_ j).name.size<=10)(Z:List UInt8){k:Nat}(d:k<8):∃R,(Ja S++Z).drop (4+18*k)=Xl (S.at_ k)++R:=by
 have f:k<S.Jo.length:=by rw[S.len];exact d
 have e:Ja S=Zq S k++(Xl (S.at_ k)++(S.Jo.drop (k+1)).flatMap Xl):=by
  unfold Ja Zq;have h:=S.get d;rw[List.getElem?_eq_getElem f] at h;have h2:S.Jo.take 8=S.Jo.take k++(S.at_ k::S.Jo.drop (k+1)):=by
   rw[<-Option.some.inj h,List.getElem_cons_drop,List.take_append_drop,List.take_of_length_le (by rw[S.len];omega)]
  rw[h2,List.flatMap_append,List.flatMap_cons];simp only[List.append_assoc]
 rw[e,List.append_assoc,List.drop_left' (J5 S k (by omega) hn),List.append_assoc];exact⟨_,rfl⟩
theorem qoh (S:Sp)(h:S.may=true)(Z:List UInt8):(gN (Ja S++Z) 0 2:Int)=S.Qa/\(gN (Ja S++Z) 2 2:Int)=S.log:=by
 have f:=(Tc h).1;have e:Ja S++Z=[]++(Qy S.Qa 2++(Qy S.log 2++((S.Jo.take 8).flatMap Xl++Z))):=by unfold Ja Zq;simp only[List.append_assoc,List.nil_append]
 have d:Ja S++Z=Qy S.Qa 2++(Qy S.log 2++((S.Jo.take 8).flatMap Xl++Z)):=by rw[e,List.nil_append]
 constructor
 ·rw[e,qbp _ _ _ 0 2 rfl (Xf _ _)];exact Pn _ 2 (by omega) (by omega)
 ·rw[d,qbp _ _ _ 2 2 (Xf _ _) (Xf _ _)];exact Pn _ 2 (by omega) (by omega)
theorem qwz {S:Sp}{slot:Int}(h:Yi S slot=true):okB (swB S slot)=true/\Yk (swB S slot)=Dk S slot/\rdL (swB S slot)=S/\rfL (swB S slot)=S/\(∀k,k<8->gN ((Un (swB S slot)).drop (4+18*k)) 0 1<=10):=by
 have hm:S.may=true:=by unfold Yi at h;rw[Bool.and_eq_true] at h;exact h.1
 have d:=qnq h;have E:(Ja S).length<=236:=by rw[q9g hm];omega
 obtain⟨A,p,G⟩:=q6a (Dk S slot) (Ja S) d E;have F:=(qix h).2.1;rw[F];have hn:=q6d hm;have u:=qt8 hm;obtain⟨B,D⟩:=qoh S hm (List.replicate (236-(Ja S).length) 0);have y:∀k,k<8->Il ((Un (Zn (Dk S slot) (Ja S))).drop (4+18*k))=S.at_ k/\rfV ((Un (Zn (Dk S slot) (Ja S))).drop (4+18*k))=S.at_ k/\gN ((Un (Zn (Dk S slot) (Ja S))).drop (4+18*k)) 0 1<=10:=λk d=>by
  rw[p];obtain⟨R,e⟩:=qwy S hn (List.replicate (236-(Ja S).length) 0) d;rw[e];exact qt7 _ (u k d) R
 have m:∀f:List UInt8->Vl,(∀k,k<8->f ((Un (Zn (Dk S slot) (Ja S))).drop (4+18*k))=S.at_ k)->(List.range 8).map (λi=>if i<8 then f ((Un (Zn (Dk S slot) (Ja S))).drop (4+18*i)) else Vl.zero)=S.Jo:=λf u=>by
  refine List.ext_getElem (by simp[S.len]) λi h1 h2=>?_
  have hi:i<8:=by simpa using h1
  simp only[List.getElem_map,List.getElem_range];rw[if_pos hi,u i hi];have:=S.get hi;rw[List.getElem?_eq_getElem h2] at this;exact (Option.some.inj this).symm
 refine⟨qh0 _ _ d E,A,?_,?_,λk d=>(y k d).2.2⟩
 ·refine Sp.ext' ?_ ?_ ?_ ?_
  ·show (Yk (Zn (Dk S slot) (Ja S))).gen=S.gen;rw[A];rfl
  ·show (gN (Un (Zn (Dk S slot) (Ja S))) 0 2:Int)=S.Qa;rw[p];exact B
  ·show (gN (Un (Zn (Dk S slot) (Ja S))) 2 2:Int)=S.log;rw[p];exact D
  ·exact m Il λk d=>(y k d).1
 ·refine Sp.ext' ?_ ?_ ?_ ?_
  ·show (Yk (Zn (Dk S slot) (Ja S))).gen=S.gen;rw[A];rfl
  ·show (gN (Un (Zn (Dk S slot) (Ja S))) 0 2:Int)=S.Qa;rw[p];exact B
  ·show (gN (Un (Zn (Dk S slot) (Ja S))) 2 2:Int)=S.log;rw[p];exact D
  ·exact m rfV λk d=>(y k d).2.1
theorem qt9 {l:List UInt8}{slot:Int}(h:Xg l slot=true):okB l=true/\Yi (rdL l) slot=true/\l=swB (rdL l) slot:=by
 unfold Xg at h;rw[Bool.and_eq_true,Bool.and_eq_true] at h;exact⟨h.1,h.2.1,of_decide_eq_true h.2.2⟩
theorem qlp {S:Sp}{slot:Int}(h:Yi S slot=true):Xg (swB S slot) slot=true/\Gv (swB S slot) slot=S:=by
 obtain⟨h0,_,h2,_⟩:=qwz h;have d:Xg (swB S slot) slot=true:=by
  unfold Xg;rw[h0,h2,h];simp
 exact⟨d,by rw[(qj5 d).1,h2]⟩
theorem qvw {l:List UInt8}{slot:Int}:(Gv l slot).gen=0/\srE l slot=3/\Xg l slot=false\/1<=(Gv l slot).gen/\srE l slot=0/\Xg l slot=true:=by
 cases h:Xg l slot
 ·obtain⟨h1,h2⟩:=qhe h;exact .inl ⟨by rw[h1];rfl,h2,rfl⟩
 ·obtain⟨h1,h2⟩:=qj5 h;have d:=(qt9 h).2.1;unfold Yi at d;rw[Bool.and_eq_true] at d;exact .inr ⟨by rw[h1];exact (Tc d.1).1.1,h2,rfl⟩
def snK (a b:List UInt8):Nat:=if Xg a 0=false/\Xg b 1=false then 2 else if (Gv a 0).gen<(Gv b 1).gen then 1 else 0
def snS (a b:List UInt8):Sp:=if snK a b=2 then Sp.zero else if snK a b=1 then Gv b 1 else Gv a 0
def snI (a b:List UInt8):Int:=if snK a b=1 then 1 else 0
def Ey (a b:List UInt8):Int:=if snK a b=2 then 27 else 0
theorem Qcg {a b:List UInt8}(h1:Xg a 0=false)(h2:Xg b 1=false):snS a b=Sp.zero/\snI a b=0/\Ey a b=27:=by
 have:snK a b=2:=if_pos ⟨h1,h2⟩;unfold snS snI Ey;rw[this];exact⟨rfl,rfl,rfl⟩
theorem Qbl {a b:List UInt8}(h1:¬(Xg a 0=false/\Xg b 1=false))(h2:(Gv a 0).gen<(Gv b 1).gen):snS a b=Gv b 1/\snI a b=1/\Ey a b=0:=by
 have:snK a b=1:=by unfold snK;rw[if_neg h1,if_pos h2]
 unfold snS snI Ey;rw[this];exact⟨rfl,rfl,rfl⟩
theorem Qbk {a b:List UInt8}(h1:¬(Xg a 0=false/\Xg b 1=false))(h2:¬(Gv a 0).gen<(Gv b 1).gen):snS a b=Gv a 0/\snI a b=0/\Ey a b=0:=by
 have:snK a b=0:=by unfold snK;rw[if_neg h1,if_neg h2]
 unfold snS snI Ey;rw[this];exact⟨rfl,rfl,rfl⟩
section
def Qv (n:Nat)(g:Int):Nat:=2+Qh n*(g % 2).toNat
def U5 (n:Nat)(g:Int)(i:Nat):Hd:=⟨2,((Qv n g+i:Nat):Int),0,0,g⟩
def Kq (C:Ct)(g:Int):List (List UInt8):=(List.range (Qh C.n)).map λi=>Zn (U5 C.n g i) (C.body (i:Int))
def Aj (g:Int):Prop:=1<=g/\g<=1099511627775
theorem q6f {n:Nat}(h1:32<=n)(h2:n<=2048)(g:Int){i:Nat}(hi:i<Qh n):2<=Qv n g/\Qv n g+i<=40/\Qv n g+i<2+2*Qh n/\Qv n g+i<n:=by
 have h0:=Int.emod_nonneg g (show (2:Int)≠0 by omega);have d:=Int.emod_lt_of_pos g (show (0:Int)<2 by omega);have f:Qh n<=18:=by unfold Qh;omega
 have m:2+2*Qh n<=n:=by unfold Qh;omega
 unfold Qv;rcases (show (g % 2).toNat=0\/(g % 2).toNat=1 by omega) with e|e<;>rw[e]<;>omega
theorem qoi {n:Nat}(h1:32<=n)(h2:n<=2048){g:Int}(d:Aj g){i:Nat}(hi:i<Qh n):(U5 n g i).ok=true:=by
 have:=q6f h1 h2 g hi;refine decide_eq_true ⟨⟨by show (1:Int)<=2;omega,by show (2:Int)<=6;omega⟩,⟨by show (0:Int)<=0;omega,by show (0:Int)<=8;omega⟩,⟨?_,?_⟩,⟨by show (0:Int)<=0;omega,by show (0:Int)<=65535;omega⟩,?_,?_⟩
 ·show (0:Int)<=((Qv n g+i:Nat):Int);omega
 ·show ((Qv n g+i:Nat):Int)<=2047;omega
 ·show 0<=g;exact Int.le_trans (by omega) d.1
 ·exact d.2
def Kt (x:List UInt8)(a:Nat)(g:Int):Bool:=Rl x 2 (a:Int)&&decide ((Yk x).count=0/\(Yk x).level=0/\(Yk x).gen=g)
theorem qj7 {C:Ct}(h1:32<=C.n)(h2:C.n<=2048){g:Int}(f:Aj g){i:Nat}(hi:i<Qh C.n):Kt (Zn (U5 C.n g i) (C.body (i:Int))) (Qv C.n g+i) g=true/\(Zn (U5 C.n g i) (C.body (i:Int))).drop 20=C.body (i:Int):=by
 have e:=qoi h1 h2 f hi;have d:(C.body (i:Int)).length<=236:=by rw[Ct.Uf hi];exact Nat.le_refl _
 refine⟨?_,?_⟩
 ·unfold Kt;rw[qnl _ _ e d,(q6a _ _ e d).1,Bool.and_eq_true];exact⟨decide_eq_true ⟨rfl,rfl⟩,decide_eq_true ⟨rfl,rfl,rfl⟩⟩
 ·rw[qit _ _ d,Ct.Uf hi];simp
def Gx (f:Nat->List UInt8):Sp:=snS (f 0) (f 1)
def Si (f:Nat->List UInt8)(n:Nat)(g:Int):List (List UInt8):=(List.range (Qh n)).map λi=>(f (Qv n g+i)).drop 20
def Nv (f:Nat->List UInt8)(n:Nat)(g:Int):Ct:=Vr n (Si f n g)
open Classical in
noncomputable def Ep (f:Nat->List UInt8) (off:Bool) (n:Nat):Int:=
 if off=true then 4 else if ¬(Ey (f 0) (f 1)=0/\(Gx f).Qa=(n:Int)) then 27 else if ¬((∀i,i<Qh n->Kt (f (Qv n (Gx f).gen+i)) (Qv n (Gx f).gen+i) (Gx f).gen=true)/\J9 (n:Int) (Si f n (Gx f).gen)=0) then 5 else 0
theorem qoj {S:Sp}(hm:S.may=true){f:Nat->List UInt8}(h0:f (S.gen % 2).toNat=swB S (S.gen % 2))(h1:(Gv (f ((S.gen+1) % 2).toNat) ((S.gen+1) % 2)).gen<S.gen):Gx f=S/\Ey (f 0) (f 1)=0:=by
 have A:=Int.emod_nonneg S.gen (show (2:Int)≠0 by omega);have B:=Int.emod_lt_of_pos S.gen (show (0:Int)<2 by omega);have y:Yi S (S.gen % 2)=true:=by unfold Yi;rw[hm,Bool.true_and];exact decide_eq_true ⟨A,by omega⟩
 obtain⟨p,d⟩:=qlp y;rcases (show S.gen % 2=0\/S.gen % 2=1 by omega) with e|e
 ·have u:(S.gen+1) % 2=1:=by omega
  rw[e] at h0 p d;rw[u] at h1;replace h0:f 0=swB S 0:=h0;replace h1:(Gv (f 1) 1).gen<S.gen:=h1;have h:=Qbk (a:=f 0) (b:=f 1) (λm=>by rw[h0,p] at m;cases m.1) (by rw[h0,d];omega);exact⟨by unfold Gx;rw[h.1,h0,d],h.2.2⟩
 ·have u:(S.gen+1) % 2=0:=by omega
  rw[e] at h0 p d;rw[u] at h1;replace h0:f 1=swB S 1:=h0;replace h1:(Gv (f 0) 0).gen<S.gen:=h1;have h:=Qbl (a:=f 0) (b:=f 1) (λm=>by rw[h0,p] at m;cases m.2) (by rw[h0,d];exact h1);exact⟨by unfold Gx;rw[h.1,h0,d],h.2.2⟩
theorem qx0 {S:Sp}(hm:S.may=true){C:Ct}(d:C.ok)(D:C.res)(hn:S.Qa=(C.n:Int)){f:Nat->List UInt8}(h0:f (S.gen % 2).toNat=swB S (S.gen % 2))(h1:(Gv (f ((S.gen+1) % 2).toNat) ((S.gen+1) % 2)).gen<S.gen)
  (h2:∀i,i<Qh C.n->f (Qv C.n S.gen+i)=Zn (U5 C.n S.gen i) (C.body (i:Int))):Ep f false C.n=0/\Gx f=S/\Nv f C.n S.gen=C.commit:=by
 obtain⟨p,B⟩:=qoj hm h0 h1;have u:Aj S.gen:=by
  have:=(Tc hm).1;exact⟨this.1,this.2.1⟩
 have m:Si f C.n S.gen=C.bodies:=by
  unfold Si Ct.bodies;refine List.map_congr_left λi hi=>?_
  have e:=List.mem_range.1 hi;rw[h2 i e,(qj7 d.1.1 d.1.2 u e).2]
 obtain⟨y,A⟩:=Ct.Lc d D;refine⟨?_,p,by unfold Nv;rw[m,A]⟩;unfold Ep;rw[p,if_neg (by decide),if_neg (λh=>h ⟨B,hn⟩),if_neg (λh=>h ⟨λi hi=>by rw[h2 i hi];exact (qj7 d.1.1 d.1.2 u hi).1,by rw[m];exact y⟩)]
def Qbz (k:Int)(a:Nat)(m:Nat)(g:Int):Hd:=⟨k,(a:Int),(m:Int),0,g⟩
theorem qok (slot:Int):Xg (List.replicate 256 0) slot=false:=by
 have h:okB (List.replicate 256 0)=false:=by
  cases e:okB (List.replicate 256 0)
  ·rfl
  ·obtain⟨_,_,d,_⟩:=of_decide_eq_true e;have:(G5 (((List.replicate 256 (0:UInt8)).drop 4).take 11)).ok=false:=by decide
   rw[this] at d
   cases d
 unfold Xg;rw[h,Bool.false_and]
end
def q0z:List UInt8:=List.replicate 256 0
def Ky (_:Nat):List Stp:=[.w 0 q0z,.w 1 q0z,.fl]
def Rn (n:Nat):List Stp:=Fe (Qv n 1) (Kq (Ct.zero n) 1)++[.fl]
def fmtS (n:Nat):Sp:=sp0 1 (n:Int) 0
def fmtC (n:Nat):List Stp:=[.w 1 (swB (fmtS n) 1),.fl]
def Xq (n:Nat):List Stp:=Ky n++(Rn n++fmtC n)
theorem q35 (C:Ct)(g:Int):(Kq C g).length=Qh C.n:=by unfold Kq;simp
theorem qj8 (C:Ct)(g:Int){i:Nat}(hi:i<Qh C.n):(Kq C g).getD i []=Zn (U5 C.n g i) (C.body (i:Int)):=by
 unfold Kq;rw[List.getD_eq_getElem?_getD,List.getElem?_map,List.getElem?_range hi];rfl
theorem qol {C:Ct}(_:32<=C.n)(_:C.n<=2048){g:Int}(_:Aj g){x:List UInt8}(d:x∈Kq C g):x.length=256:=by
 unfold Kq at d;rw[List.mem_map] at d;obtain⟨i,hi,rfl⟩:=d;exact q95 _ _ (by rw[Ct.Uf (List.mem_range.1 hi)];exact Nat.le_refl _)
theorem q4x {n:Nat}(h1:32<=n)(h2:n<=2048):(fmtS n).may=true:=by
 refine qnm ?_ λj f=>?_
 ·unfold Sp.hd fmtS sp0;exact decide_eq_true ⟨by show (1:Int)<=1;omega,by show (1:Int)<=1099511627775;omega,by show (32:Int)<=(n:Int);omega,by show (n:Int)<=2048;omega,by show (0:Int)<=0;omega,by show (0:Int)<=(n:Int)-1;omega⟩
 ·have e:(fmtS n).at_ j=Vl.zero:=by
   unfold Sp.at_ fmtS sp0;rw[List.getD_eq_getElem?_getD,List.getElem?_replicate];split<;>rfl
  have d:Vl.zero.same Vl.zero=true:=by simp[Vl.same]
  unfold Sp.ok1;rw[e,d,Bool.true_or]
theorem qys {n:Nat}(h1:32<=n)(h2:n<=2048):∀a∈Xq n,a.ok n:=by
 intro a d;have m:q0z.length=256:=by unfold q0z;rw[List.length_replicate]
 unfold Xq Ky Rn fmtC at d;rw[List.mem_append,List.mem_append,List.mem_append] at d;rcases d with d|(d|d)|d
 ·simp at d;rcases d with rfl|rfl|rfl
  ·exact⟨by omega,m⟩
  ·exact⟨by omega,m⟩
  ·trivial
 ·cases a with
  |w s x=>
   obtain⟨i,hi,u,p⟩:=qob d;rw[q35,Ct.Zd] at hi;have:=q6f h1 h2 1 hi;refine⟨by omega,?_⟩;rw[p];have e:i<(Kq (Ct.zero n) 1).length:=by rw[q35,Ct.Zd];exact hi
   refine qol (C:=Ct.zero n) (by rw[Ct.Zd];exact h1) (by rw[Ct.Zd];exact h2) (g:=1) ⟨by omega,by omega⟩ ?_;rw[List.getD_eq_getElem?_getD,List.getElem?_eq_getElem e];exact List.getElem_mem e
  |fl=>trivial
 ·simp at d;subst d;trivial
 ·simp at d;rcases d with rfl|rfl
  ·refine⟨by omega,?_⟩;have f:Yi (fmtS n) 1=true:=by unfold Yi;rw[q4x h1 h2,Bool.true_and];decide
   unfold swB;rw[if_pos f];exact q95 _ _ (by rw[q9g (q4x h1 h2)];omega)
  ·trivial
theorem qom {n:Nat}:(Xq n).length=Qh n+6:=by
 unfold Xq Ky Rn fmtC;rw[List.length_append,List.length_append,List.length_append,qhd,q35,Ct.Zd];simp;omega
theorem qon {n:Nat}(h1:32<=n)(h2:n<=2048)(d:Nat->List UInt8):Y5 0 (Xq n) (d 0)=q0z/\Y5 1 (Xq n) (d 1)=swB (fmtS n) 1/\∀i,i<Qh n->Y5 (Qv n 1+i) (Xq n) (d (Qv n 1+i))=Zn (U5 n 1 i) ((Ct.zero n).body (i:Int)):=by
 have f:∀s,s<2->spares s (Fe (Qv n 1) (Kq (Ct.zero n) 1)):=λs p=>qlo (.inl (by unfold Qv;omega))
 unfold Xq Ky Rn fmtC;refine⟨?_,?_,λi hi=>?_⟩
 ·rw[Sv,Sv,Sv,q2u (f 0 (by omega))];rfl
 ·rw[Sv,Sv];rfl
 ·have e:i<(Kq (Ct.zero n) 1).length:=by rw[q35,Ct.Zd];exact hi
  have h:=q6f h1 h2 1 hi;rw[Sv,Sv,Sv,qoc _ _ _ _ e,qj8 _ _ (by rw[Ct.Zd];exact hi),Ct.Zd];exact q2u (s:=Qv n 1+i) (l:=[Stp.w 1 (swB (fmtS n) 1),.fl]) (λt x m=>by simp at m;omega) _
inductive Bk where
 |node (N:Nd)
 |bytes (k:Int) (l:List UInt8)
def Bk.out (b:Bk)(a:Nat)(g:Int):List UInt8:=match b with
 |.node N=>Jp N (a:Int) g
 |.bytes k l=>Zn (Qbz k a l.length g) l
def Bk.fine (b:Bk):Prop:=∀(a:Nat) (g:Int),a<=2047->Aj g->(b.out a g).length=256
structure Pl where
 S:Sp
 C:Ct
 L:Nat->Option Bk
def Pl.g (P:Pl):Int:=P.S.gen+1
def Pl.Qcu (P:Pl)(a:Nat):Option (Nat × List UInt8):=match P.L a with
 |some b=>if P.C.get (a:Int)=0 then none else some (a,b.out a P.g)
 |none=>none
def Pl.new (P:Pl):List (Nat × List UInt8):=(List.range P.C.n).filterMap P.Qcu
structure Pl.ok (P:Pl):Prop where
 c:P.C.ok
 res:P.C.res
 may:P.S.may=true
 sec:P.S.Qa=(P.C.n:Int)
 gen:P.S.gen<1099511627775
 fine:∀a b,P.L a=some b->b.fine
structure Qaz (P:Pl)(S0:Sp)(C0:Ct)(f:Nat->List UInt8):Prop where
 may:S0.may=true
 gen:S0.gen=P.S.gen
 sec:S0.Qa=(P.C.n:Int)
 c:C0.ok
 res:C0.res
 n:C0.n=P.C.n
 slot:f (P.S.gen % 2).toNat=swB S0 (P.S.gen % 2)
 other:(Gv (f ((P.S.gen+1) % 2).toNat) ((P.S.gen+1) % 2)).gen<P.S.gen
 area:∀i,i<Qh P.C.n->f (Qv P.C.n P.S.gen+i)=Zn (U5 P.C.n P.S.gen i) (C0.body (i:Int))
structure DM.free (D:DM):Prop where
 on:D.off=false
 Ob:D.fused=false
theorem qoo {D:DM}(h:D.free)(m:Nat):D.room m=m:=by
 unfold DM.room;rw[h.on,h.Ob];rfl
theorem qta {D:DM}(h:D.free){l:List Stp}(p:∀a∈l,a.ok D.n):D.Jh l=0/\(D.Qz l).free/\(D.Qz l).n=D.n/\(D.Qz l).steps=D.steps+l.length/\(D.Qz l).mem=D.mem.gos l:=by
 obtain⟨h1,h2,_,f,d,_,m⟩:=qt4 l D p;have e:=qoo h l.length;rw[e,List.take_length] at h1;rw[e] at d;rcases m with⟨_,j2,j3⟩|⟨j1,_,_⟩
 ·exact⟨j2,⟨j3.trans h.on,f.trans h.Ob⟩,h2,d,h1⟩
 ·omega
theorem qx1 (D:DM)(s:Nat):D.mem.Zm s=D.Zm s:=rfl
theorem qlq (D:DM)(s:Nat):D.mem.newest s=D.newest s:=rfl
def Pl.fresh (n:Nat):Pl:=⟨fmtS n,Ct.zero n,λ_=>none⟩
theorem qtb {n:Nat}(h1:32<=n)(h2:n<=2048):(Pl.fresh n).ok:=
 ⟨Ct.Bg h1 h2,Ct.Ic n,q4x h1 h2,by show (n:Int)=((Ct.zero n).n:Int);rw[Ct.Zd],by show (1:Int)<1099511627775;omega,λa b h=>by cases h⟩
structure Sound (D:DM)(P:Pl)(S0:Sp)(C0:Ct):Prop where
 free:D.free
 n:D.n=P.C.n
 Af:∀s,D.Zm s=[]
 holds:Qaz P S0 C0 D.Xc
theorem qj9 {D:DM}{n:Nat}(h1:32<=n)(h2:n<=2048)(hn:D.n=n)(h:D.free):D.Jh (Xq n)=0/\Sound (D.Qz (Xq n)) (Pl.fresh n) (fmtS n) (Ct.zero n)/\(D.Qz (Xq n)).steps=D.steps+(Qh n+6):=by
 subst hn;obtain⟨p,u,y,e,f⟩:=qta h (qys h1 h2);rw[qom] at e;have m:∀s,(D.Qz (Xq D.n)).Zm s=[]:=λs=>by
  rw[<-qx1,f];unfold Xq fmtC;rw[qbo,qbo];rfl
 have hd:∀s,(D.Qz (Xq D.n)).Xc s=Y5 s (Xq D.n) (D.newest s):=λs=>by
  have A:(D.Qz (Xq D.n)).newest s=(D.Qz (Xq D.n)).Xc s:=by unfold DM.newest;rw[m];rfl
  rw[<-A,<-qlq,f,q7a];rfl
 obtain⟨B,E,F⟩:=qon h1 h2 D.newest;refine⟨p,⟨u,y.trans (Ct.Zd _).symm,m,?_⟩,e⟩;refine⟨q4x h1 h2,rfl,by show (D.n:Int)=((Ct.zero D.n).n:Int);rw[Ct.Zd],Ct.Bg h1 h2,Ct.Ic _,rfl,?_,?_,λi hi=>?_⟩
 ·show (D.Qz (Xq D.n)).Xc 1=swB (fmtS D.n) 1;rw[hd,E]
 ·show (Gv ((D.Qz (Xq D.n)).Xc 0) 0).gen<1;rw[hd,B];unfold q0z;rw[(qhe (qok 0)).1];decide
 ·have d:i<Qh D.n:=by
   have:(Pl.fresh D.n).C.n=D.n:=Ct.Zd _;rwa [this] at hi
  show (D.Qz (Xq D.n)).Xc (Qv (Ct.zero D.n).n 1+i)=Zn (U5 (Ct.zero D.n).n 1 i) _;rw[Ct.Zd,hd,F i d]
theorem qf5 {D:DM}{P:Pl}{m:Sp}{e:Ct}(p:Sound D P m e):Ep D.newest false D.n=0/\Gx D.newest=m/\Nv D.newest D.n P.S.gen=e.commit:=by
 have H:=p.holds;have d:∀s,D.newest s=D.Xc s:=λs=>by unfold DM.newest;rw[p.Af];rfl
 have u:=qx0 (S:=m) H.may (C:=e) H.c H.res (by rw[H.n];exact H.sec) (f:=D.newest) (by rw[H.gen,d];exact H.slot) (by rw[H.gen,d];exact H.other)
  (λi hi=>by rw[H.n] at hi ⊢;rw[H.gen,d];exact H.area i hi)
 rw[H.n,H.gen] at u;rw[p.n];exact u
theorem Ct.Oc {C:Ct}{k:Nat}(h:C.pick=some k)(j:Nat)(hj:j<C.n):C.alloc.may j=if j=k then false else C.may j:=by
 obtain⟨h1,h2,f,m,_⟩:=Ct.Yd h;rw[(Ct.Xo h).2.2,Ct.Lm,Ct.Lm,Ct.Bv (C.Zh k 1),q5r C k 1 j hj];have e:nm (C.put k 1).done j=nm C.done j:=rfl;rw[e];by_cases d:j=k
 ·rw[if_pos d,if_pos d];exact decide_eq_false (by rintro⟨_,p,_⟩;omega)
 ·rw[if_neg d,if_neg d]
theorem Ct.Ei {C:Ct}{k:Nat}(h:C.pick=some k):∀m,m<=C.n->C.alloc.Xh m+(if k<m then 1 else 0)=C.Xh m:=by
 obtain⟨h1,h2,u,y,_⟩:=Ct.Yd h;have f:C.may k=true:=by rw[Ct.Lm];exact decide_eq_true ⟨h2,u,y⟩
 intro m;induction m with
 |zero=>intro _;rfl
 |succ m d=>
  intro hm;have d:=d (by omega);rw[Ct.Uh,Ct.Uh,Ct.Oc h m (by omega)];by_cases e:m=k
  ·subst e;rw[if_pos rfl,if_neg (by decide),if_pos (by omega),if_pos f];rw[if_neg (by omega)] at d;omega
  ·rw[if_neg e];by_cases p:k<m
   ·rw[if_pos p] at d;rw[if_pos (show k<m+1 by omega)];omega
   ·rw[if_neg p] at d;rw[if_neg (show ¬k<m+1 by omega)];omega
theorem Ct.Bl {C:Ct}{k:Nat}(h:C.pick=some k):C.alloc.free+1=C.free:=by
 have d:=(Ct.Yd h).1;have:=Ct.Ei h C.n (Nat.le_refl _);rw[if_pos d] at this;unfold Ct.free;rw[C.Ej];exact this
theorem Ct.Cc {C:Ct}(h:0<C.free):∃k,C.pick=some k:=by
 cases d:C.pick with
 |some k=>exact⟨k,rfl⟩
 |none=>have:=Ct.Wn d;omega
def Pl.lay (P:Pl)(b:Bk):Pl:=match P.C.pick with
 |some a=>⟨P.S,P.C.alloc,upd P.L a (some b)⟩
 |none=>P
theorem q3r {P:Pl}{a:Nat}(h:P.C.pick=some a)(b:Bk):P.lay b=⟨P.S,P.C.alloc,upd P.L a (some b)⟩:=by unfold Pl.lay;rw[h]
theorem qvx {P:Pl}(h:P.ok){b:Bk}(p:b.fine):(P.lay b).ok:=by
 cases m:P.C.pick with
 |none=>
  have:P.lay b=P:=by unfold Pl.lay;rw[m]
  rw[this];exact h
 |some a=>
  rw[q3r m];refine⟨Ct.Rf h.c,Ct.Oe h.res,h.may,by show P.S.Qa=(P.C.alloc.n:Int);rw[Ct.Ej];exact h.sec,h.gen,λc d f=>?_⟩;replace f:upd P.L a (some b) c=some d:=f;by_cases e:c=a
  ·subst e;rw[Bd] at f;injection f with f;exact f▸p
  ·rw[Au _ _ e] at f;exact h.fine c d f
theorem qtc {P:Pl}(b:Bk):(P.lay b).C.n=P.C.n:=by
 unfold Pl.lay;split
 ·exact P.C.Ej
 ·rfl
theorem qyt {P:Pl}(b:Bk):(P.lay b).S=P.S:=by
 unfold Pl.lay;split<;>rfl
theorem qop {D:DM}{P:Pl}{m:Sp}{f:Ct}(h:Sound D P m f)(b:Bk):Sound D (P.lay b) m f:=by
 have d:=qtc (P:=P) b;have e:=qyt (P:=P) b;refine⟨h.free,h.n.trans d.symm,h.Af,?_⟩;have H:=h.holds;exact⟨H.may,by rw[e];exact H.gen,by rw[d];exact H.sec,H.c,H.res,by rw[d];exact H.n,by rw[e];exact H.slot,by rw[e];exact H.other,by rw[d,e];exact H.area⟩
theorem qhf {P:Pl}{a:Nat}(h:P.C.pick=some a)(b:Bk)(c:Nat)(d:c<P.C.n):(P.lay b).C.get (c:Int)=if c=a then 1 else P.C.get (c:Int):=by
 rw[q3r h];show P.C.alloc.get (c:Int)=_;rw[(Ct.Xo h).2.2];unfold Ct.get;rw[C_put_n_get d,q5r P.C a 1 c d];by_cases e:c=a
 ·rw[if_pos e,if_pos e]
 ·rw[if_neg e,if_neg e,if_pos (show 0<=(c:Int)/\(c:Int)<(P.C.n:Int) by omega),Int.toNat_natCast]
 where
 C_put_n_get {C:Ct} {k:Nat} {x:Int} {c:Nat} (d:c<C.n):(if 0<=(c:Int)/\(c:Int)<((C.put k x).n:Int) then nm (C.put k x).now (c:Int).toNat else 0)=nm (C.put k x).now c:=by
  rw[C.Zh,if_pos ⟨by omega,by omega⟩,Int.toNat_natCast]
theorem qhg {P:Pl}{a:Nat}(h:P.C.pick=some a)(b:Bk)(c:Nat):(P.lay b).L c=if c=a then some b else P.L c:=by
 rw[q3r h];rfl
section
def q36 (A:Option Addr)(n c:Nat)(a:List UInt8)(B:Option Addr)(m d:Nat)(b:List UInt8)(w:World):Prop:=
  Calls Tryz.prog 154 #[.slice A n c,.slice B m d] w λe f=>e=.returned (.tuple #[.agg (snS a b).vs.toArray,.int .i64 (snI a b),.int .i64 (Ey a b)])/\Below w.1.size w f
attribute [local go_sem ↓] q1n q6c q4s q8s qj6
theorem q7b (A:Option Addr)(n c:Nat)(a:List UInt8)(B:Option Addr)(m d:Nat)(b:List UInt8)(w:World)(ha:Sl w A n c a)(hb:Sl w B m d b)(ht:Tab w):q36 A n c a B m d b w:=by
 unfold q36;have b7:=qd3 true;have b8:=qiv;have Z1:=SB.new w Sp.zero 120;have b1:Below w.1.size w (w.alloc (.cells Sp.zero.vs.toArray 120)):=Qk;go_enter Tryz.func154,Tryz.ntmps154
 go_wp2_with fail
 generalize w.alloc (.cells Sp.zero.vs.toArray 120)=w1 at Z1 b1 ⊢;refine Calls.mono (qf4 A n c a 0 w1 (ha.below b1) (ht.below b1 ht.1)) ?_;rintro e w2 ⟨rfl,a6⟩;have Z2:=Z1.below a6 Z1.lt;have B2:=b1.trans (a6.mono b1.size);have H2:=SB.new w2 Sp.zero 120;have b2:Below w2.1.size w2 (w2.alloc (.cells Sp.zero.vs.toArray 120)):=Qk;have E:=qvw (l:=a) (slot:=0);have U:=qvw (l:=b) (slot:=1);have K2:=λh1 h2=>Qcg (a:=a) (b:=b) h1 h2
 have K1:=λh1 h2=>Qbl (a:=a) (b:=b) h1 h2
 have K0:=λh1 h2=>Qbk (a:=a) (b:=b) h1 h2
 obtain⟨SA,a8⟩:∃SA,Gv a 0=SA:=⟨_,rfl⟩;obtain⟨Q,a2⟩:∃Q,Gv b 1=Q:=⟨_,rfl⟩;rw[a8] at E K1 K0 ⊢;rw[a2] at U K1 K0;clear a8;have KK:=Lib.hid (And.intro K2 (And.intro K1 K0));have Ka:=Lib.hid E;have Kb:=Lib.hid U;clear K2 K1 K0 E U;obtain⟨ea,b3⟩:∃ea,srE a 0=ea:=⟨_,rfl⟩;rw[b3];clear b3;go_wp2_with (first
  |(refine Eu rfl _ _ rfl w2.1.size rfl SA Sp.zero rfl H2 ?_;intro w3 H3 b0 T3;have a1:=b2.trans (b0 _ (Nat.le_refl _));have B3:=B2.trans (a1.mono B2.size);have Z3:=Z2.below a1 Z2.lt)
  |fail)
 refine Calls.mono (qf4 B m d b 1 w3 (hb.below B3) (ht.below B3 ht.1)) ?_;rw[a2];rintro e O ⟨rfl,T⟩;have K:=H3.below T H3.lt;have R:=Z3.below T Z3.lt;have W:=B3.trans (T.mono B3.size);have P:=SB.new O Sp.zero 120;have b4:Below O.1.size O (O.alloc (.cells Sp.zero.vs.toArray 120)):=Qk;obtain⟨eb,b5⟩:∃eb,srE b 1=eb:=⟨_,rfl⟩;rw[b5];clear b5 a2 H2 b2 b0 T3 a1 B3 Z3 H3 T Z2 B2 a6 Z1 b1;obtain⟨fa,I⟩:∃fa,SA.gen=fa:=⟨_,rfl⟩;obtain⟨M,J⟩:∃M,Q.gen=M:=⟨_,rfl⟩;have D:=Lib.hid I;have H:=Lib.hid J;obtain⟨bk,b6⟩:∃bk,w2.1.size=bk:=⟨_,rfl⟩;rw[b6] at K ⊢;have c6:w.1.size<O.1.size:=R.lt;have b9:bk<O.1.size:=K.lt;rcases Ka.out with E|E
 ·rcases Kb.out with U|U
  ·have p:=KK.out.1 E.2.2 U.2.2;have e1:fa=0:=by rw[<-D.out];exact E.1
   have e2:M=0:=by rw[<-H.out];exact U.1
   subst e1 e2;go_wp2_with (first
    |(refine Eu rfl _ _ rfl O.1.size rfl Q Sp.zero rfl P ?_;intro w5 F u T5;have f:=b4.trans (u _ (Nat.le_refl _));have X:=W.trans (f.mono W.size);have Z:=R.below f R.lt;have G:=K.below f K.lt;have g5:=F.c0;have g6:=G.c0;have l5:=F.ld;have l6:=G.ld;rw[J] at g5;rw[I] at g6)
    |(refine Eu rfl _ _ rfl w.1.size rfl Sp.zero Sp.zero rfl Z ?_;intro w9 Y y T9)
    |fail)
   refine bodyPost_ret (q0u Tryz.results154 rfl (q3k Y)) rfl ?_;rw[p.1,p.2.1,p.2.2];exact⟨rfl,X.trans (y _ (Nat.le_refl _))⟩
  ·have e1:fa=0:=by rw[<-D.out];exact E.1
   have e2:1<=M:=by rw[<-H.out];exact U.1
   have p:=KK.out.2.1 (by rw[E.2.2,U.2.2];simp) (by rw[D.out,H.out];omega);subst e1;have e3:¬M=0:=by omega
   have e4:(0:Int)<M:=by omega
   have e5:(M==0)=false:=by simpa using e3
   go_wp2_with (first
    |(refine Eu rfl _ _ rfl O.1.size rfl Q Sp.zero rfl P ?_;intro w5 F u T5;have f:=b4.trans (u _ (Nat.le_refl _));have X:=W.trans (f.mono W.size);have Z:=R.below f R.lt;have G:=K.below f K.lt;have g5:=F.c0;have g6:=G.c0;have l5:=F.ld;have l6:=G.ld;rw[J] at g5;rw[I] at g6)
    |(refine Eu rfl _ _ rfl w.1.size rfl Q Sp.zero rfl Z ?_;intro w9 Y y T9)
    |fail)
   refine bodyPost_ret (q0u Tryz.results154 rfl (q3k Y)) rfl ?_;rw[p.1,p.2.1,p.2.2];exact⟨rfl,X.trans (y _ (Nat.le_refl _))⟩
 ·have e1:1<=fa:=by rw[<-D.out];exact E.1
  have e3:¬fa=0:=by omega
  have e5:(fa==0)=false:=by simpa using e3
  by_cases a7:fa<M
  ·have p:=KK.out.2.1 (by rw[E.2.2];simp) (by rw[D.out,H.out];exact a7);have e6:decide (fa<M)=true:=decide_eq_true a7;go_wp2_with (first
    |(refine Eu rfl _ _ rfl O.1.size rfl Q Sp.zero rfl P ?_;intro w5 F u T5;have f:=b4.trans (u _ (Nat.le_refl _));have X:=W.trans (f.mono W.size);have Z:=R.below f R.lt;have G:=K.below f K.lt;have g5:=F.c0;have g6:=G.c0;have l5:=F.ld;have l6:=G.ld;rw[J] at g5;rw[I] at g6)
    |(refine Eu rfl _ _ rfl w.1.size rfl Q Sp.zero rfl Z ?_;intro w9 Y y T9)
    |fail)
   refine bodyPost_ret (q0u Tryz.results154 rfl (q3k Y)) rfl ?_;rw[p.1,p.2.1,p.2.2];exact⟨rfl,X.trans (y _ (Nat.le_refl _))⟩
  ·have p:=KK.out.2.2 (by rw[E.2.2];simp) (by rw[D.out,H.out];omega);have e6:decide (fa<M)=false:=decide_eq_false a7;go_wp2_with (first
    |(refine Eu rfl _ _ rfl O.1.size rfl Q Sp.zero rfl P ?_;intro w5 F u T5;have f:=b4.trans (u _ (Nat.le_refl _));have X:=W.trans (f.mono W.size);have Z:=R.below f R.lt;have G:=K.below f K.lt;have g5:=F.c0;have g6:=G.c0;have l5:=F.ld;have l6:=G.ld;rw[J] at g5;rw[I] at g6)
    |(refine Eu rfl _ _ rfl w.1.size rfl SA Sp.zero rfl Z ?_;intro w9 Y y T9)
    |fail)
   refine bodyPost_ret (q0u Tryz.results154 rfl (q3k Y)) rfl ?_;rw[p.1,p.2.1,p.2.2];exact⟨rfl,X.trans (y _ (Nat.le_refl _))⟩
end
