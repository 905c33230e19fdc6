/- A block of bytes is laid down in a pool of trees: held by who did it, and no node -/
import Derived.Test.YthkfkhejjmhomaaGreatDoorEs40
namespace Go.Proofs.YthkfkhejjmhomaaGreatDoor
open Go Go.RowKit Go.Proofs
set_option maxHeartbeats 8000000
set_option maxRecDepth 100000
section
variable {D:DM}{S0:Sp}{C0:Ct}{O H:List Int}{P:Pl}
theorem Gy {v:List UInt8}(e:v.length<=128):Pl.Gy 5 v.length=true:=by
 unfold Pl.Gy Uh;rw[if_pos rfl];exact decide_eq_true e
theorem Qcz {v:List UInt8}(e:v.length<=128):P.put 5 v=P.lay (.bytes 5 v)/\P.Dp 5 v.length=P.C.Kv/\P.Zv 5 v.length=P.C.Ku:=by
 unfold Pl.put Pl.Dp Pl.Zv;rw[Gy e];exact⟨rfl,rfl,rfl⟩
theorem qnf (K:Keep D S0 C0 O H P){c:Nat}(M:P.C.pick=some c){v:List UInt8}(hv:v.length<=128) :
  P.Zv 5 v.length=0/\P.Dp 5 v.length=(c:Int)/\Keep D S0 C0 O ((c:Int)::H) (P.put 5 v)/\(P.put 5 v).tell D (c:Int)=(Yh,0)/\Ext (P.hide D O) ((P.put 5 v).hide D O)/\P.C.free=(P.put 5 v).C.free+1/\(P.put 5 v).C.n=P.C.n/\P.like (P.put 5 v)/\1<=c/\c<2048/\
   (∀x,x≠(c:Int)->(P.put 5 v).store D x=P.store D x/\(P.put 5 v).C.get x=P.C.get x)/\P.C.get (c:Int)=0:=by
 obtain⟨p1,p2,p3,p4,_⟩:=Ct.J4 M;obtain⟨a1,a2,a3⟩:=Ct.Jh M;obtain⟨y,v1,v2⟩:=Qcz (P:=P) hv;have hz:P.C.get (c:Int)=0:=by
  unfold Ct.get;rw[if_pos (by omega),Int.toNat_natCast];exact p3
 have a5:P.C.first=2+2*Ql P.C.n:=rfl
 have I:(c:Int)∉O:=λh=>by
  have:=(K.opened _ h).2;omega
 have B:=λb (f:b<P.C.n)=>qdx M (.bytes 5 v) b f
 have G:=qfq M (.bytes 5 v);have U:(Bk.bytes 5 v).good:=qca (.inl rfl) (by omega);have hn:(P.put 5 v).C.n=P.C.n:=by rw[y];exact qme _
 have hE:(P.put 5 v).Qd D (c:Int)≠0:=by
  have h0:(P.put 5 v).C.get (c:Int)≠0:=by rw[y,B c p1,if_pos rfl];decide
  have hl:(P.put 5 v).live c=some (.bytes 5 v):=by
   unfold Pl.live;rw[if_neg h0,y,G c,if_pos rfl]
  rw[q9j D h0 hl];show (1:Int)≠0;decide
 have R:(P.put 5 v).C.get (c:Int)=1:=by rw[y,B c p1,if_pos rfl]
 have F:(P.put 5 v).tell D (c:Int)=(Yh,0):=qbm (by rw[R];decide) hE;have u:∀x,x≠(c:Int)->(P.put 5 v).C.get x=P.C.get x:=λx m=>by
  by_cases f:0<=x/\x<(P.C.n:Int)
  ·obtain⟨n,rfl⟩:∃n:Nat,x=(n:Int):=⟨x.toNat,by omega⟩;have B:=B n (by omega);rw[if_neg (by omega)] at B;rw[y];exact B
  ·unfold Ct.get;rw[hn,if_neg f,if_neg f]
 have W:∀x,x≠(c:Int)->(P.put 5 v).store D x=P.store D x:=λx m=>by
  by_cases f:0<=x/\x<(P.C.n:Int)
  ·obtain⟨n,rfl⟩:∃n:Nat,x=(n:Int):=⟨x.toNat,by omega⟩;have B:=B n (by omega);have G:=G n;rw[if_neg (by omega)] at B G;rw[y];unfold Pl.store Pl.Qa Pl.Qd Pl.live;rw[Int.toNat_natCast,B,G]
  ·have h1:P.C.get x=0:=by unfold Ct.get;rw[if_neg f]
   rw[q10 h1,q10 (by rw[u x m];exact h1)]
 have hh:∀x,x≠(c:Int)->(P.put 5 v).hide D O x=P.hide D O x:=λx m=>by
  unfold Pl.hide;rw[q2t (W x m) (by rw[u x m])]
 have A:(P.put 5 v).hide D O (c:Int)=(Yh,0):=by rw[Et I];exact F
 have X:Ext (P.hide D O) ((P.put 5 v).hide D O):=λx m=>hh x λe=>by
  rw[e,Et I,q32 hz] at m
  cases m
 have a4:=K.c.1.2;have Y:(P.put 5 v).C=P.C.alloc:=by rw[y,q2n M]
 have a6:=Ct.U3 M;refine⟨by rw[v2];exact a1,by rw[v1];exact a2,⟨⟨by rw[y];exact qk8 K.Ze.ok U.fine,by rw[y];exact qfp K.Ze.sound _,λa b f=>?_⟩,λa E=>?_,?_,λx m=>?_,λa E Q a0=>?_⟩,F,X,by rw[Y];omega,hn,?_,by omega,by omega,λx m=>⟨W x m,u x m⟩,hz⟩
 ·rw[y,G a] at f;split at f
  ·injection f with f;subst f;exact⟨⟨128,rfl,hv⟩,U⟩
  ·exact K.Ze.kinds a b f
 ·rw[y,G a];by_cases e:a=c
  ·exact⟨_,if_pos e⟩
  ·rw[if_neg e];refine K.laid a ?_;rw[Y] at E;rw[(Ct.Jh M).2.2] at E;have Z:a<P.C.n:=by
    obtain⟨n,e1,h2⟩:=Uc (q2w E);rw[P.C.Zf] at h2;omega
   unfold Ct.fresh at E ⊢;rw[Oh P.C a Z,if_neg e] at E;exact E
 ·rw[hn];refine K.Vz.put (c:=c) (ks:=[]) (H0:=H) (cnt':=(P.put 5 v).cnt) (by omega) p1 (by unfold Pl.cnt;rw[hz];rfl) (λa _ _=>by simp) ?_ ?_ ?_ ?_
  ·unfold Pl.cnt;rw[R];rfl
  ·intro b f J;unfold Pl.cnt;rw[u _ (by omega)]
  ·show ((P.put 5 v).hide D O (c:Int)).1.named=_;rw[A];rfl
  ·intro b f J;show ((P.put 5 v).hide D O (b:Int)).1.named=_;rw[hh _ (by omega)]
 ·obtain⟨k1,k2⟩:=K.opened x m;have J:x≠(c:Int):=λe=>I (e▸m)
  exact⟨List.mem_cons_of_mem _ k1,by rw[u x J];exact k2⟩
 ·rw[hn] at E;by_cases e:a=c
  ·subst e;exact .inl A
  ·rw[u _ (by omega)] at Q;exact (K.loc a E Q a0).ext X
 ·refine⟨by rw[y];exact qtq _,?_⟩;rw[Y];unfold Ct.alloc;split<;>rfl
end
theorem q7c {k:Kd}(u:k.kind=3){c:Nat}(y:c<65536):Y4 ⟨k,[1,UInt8.ofNat (c / 256),UInt8.ofNat (c % 256)]⟩=some (c:Int):=by
 unfold Y4;have e:Yy [1,UInt8.ofNat (c / 256),UInt8.ofNat (c % 256)] 0=1:=rfl;have f:Yy [1,UInt8.ofNat (c / 256),UInt8.ofNat (c % 256)] 1=c / 256:=by
  show (UInt8.ofNat (c / 256)).toNat=_;rw[UInt8.toNat_ofNat'];omega
 have m:Yy [1,UInt8.ofNat (c / 256),UInt8.ofNat (c % 256)] 2=c % 256:=by
  show (UInt8.ofNat (c % 256)).toNat=_;rw[UInt8.toNat_ofNat'];omega
 rw[if_pos ⟨u,rfl,e⟩,f,m];congr 1
 omega
section
open Go.ChangeMaps (setBlock)
structure Tms (w:World)(b:Nat)(zs:List Int)(l:List MapEntry)(clock:Nat):Prop where
 map:w.heap[b]?=some (.map l.toArray clock)
 ents:Un l clock
 look:∀s,Zg s l=if zs.count s=0 then none else some (.int .i64 (zs.count s:Int))
theorem q55 {w:World}{A:Option Addr}{n c:Nat}{zs:List Int}(f:Vw w A n c zs){j:Nat}(B:j<n):∃g o,A=some ⟨g,o,none⟩/\w.cell? ⟨g,o+j,none⟩=some (.int .i64 (zs.getD j 0))/\g<w.1.size:=by
 have u:=f.len;rw[List.length_map] at u;obtain⟨g,o,e,m,_,y⟩:=f.2.2.2 j (iv (zs.getD j 0)) (by
  rw[List.getElem?_map,List.getElem?_eq_getElem (by omega),List.getD_eq_getElem?_getD,List.getElem?_eq_getElem (by omega)];rfl)
 have:=y 0 _ rfl;rw[Nat.mul_one,Nat.add_zero] at this;exact⟨g,o,e,this,m⟩
theorem qng {zs:List Int}{j:Nat}(h:j<zs.length)(s:Int):(zs.take (j+1)).count s=(zs.take j).count s+(if zs.getD j 0=s then 1 else 0):=by
 rw[List.take_add_one,List.count_append,List.getElem?_eq_getElem h,List.getD_eq_getElem?_getD,List.getElem?_eq_getElem h];show _+List.count s [zs[j]]=_+(if zs[j]=s then 1 else 0);rw[List.count_singleton];simp only[beq_iff_eq]
theorem qrh (w:World)(zs:List Int)(A:Option Addr)(n c:Nat)(M:Vw w A n c zs)(hn:n<=1000000) :
  Calls Tryz.prog 148 #[.slice A n c] w λe Q=>∃l clock,e=.returned (.map (some w.1.size))/\Tms Q w.1.size zs l clock/\Below w.1.size w Q:=by
 have Z:=M.len;rw[List.length_map] at Z;have f:(w.alloc (.map #[] 0)).1[w.1.size]?=some (.map #[] 0):=heap_alloc_new _ _;have y:Below w.1.size w (w.alloc (.map #[] 0)):=Qn;have a0:(Instr.makeMap 231 none).run Tryz.prog w=.ok (.map (some w.1.size)) (w.alloc (.map #[] 0)):=by
  simp[Instr.makeMap]
 go_enter Tryz.func148,Tryz.ntmps148
 go_wp2_with fail
 generalize w.alloc (.map #[] 0)=w1 at f y ⊢;go_loopw [9] (λi wr=>∃(j:Nat) (l:List MapEntry) (clock:Nat),j<=n/\i=.int .i64 (j:Int)/\Tms wr w.1.size (zs.take j) l clock/\Below w.1.size w wr) (λi _=>n-(intOf i).toNat)
 case atStart=>exact⟨0,[],0,Nat.zero_le _,rfl,⟨f,qk2,λs=>by simp[Zg]⟩,y⟩
 case round=>
  clear f y;obtain⟨j,l,clock,hj,rfl,T,u⟩:=hrel;by_cases G:j<n
  ·obtain⟨g,o,U,K,X⟩:=q55 M G;subst U;have K:wr.cell? ⟨g,o+j,none⟩=some (.int .i64 (zs.getD j 0)):=(World.cell?_of_block (w:=w) (a:=⟨g,o+j,none⟩) (u.block g X)).trans K;have m:=λs=>qng (zs:=zs) (j:=j) (by omega) s
   obtain⟨z,J⟩:∃z,zs.getD j 0=z:=⟨_,rfl⟩;rw[J] at K;simp only[J] at m;clear J;have W:(zs.take j).count z<=j:=Nat.le_trans List.count_le_length (by rw[List.length_take];omega);have F:=q4u (P:=Tryz.prog) (w:=wr) T.ents Tryz.underlying231 Tryz.underlying3 (z:=.int .i64 0) (by kernel_rfl) T.map z;have B:(Zg z l).getD (.int .i64 0)=.int .i64 ((zs.take j).count z:Int):=by
    rw[T.look z];split
    ·rename_i h;rw[h];rfl
    ·rfl
   rw[B] at F;have a1:=q1h (P:=Tryz.prog) (w:=wr) T.ents Tryz.underlying231 Tryz.underlying3 T.map z;have I:=Wx T.map;have fin:Tms (setBlock wr w.1.size (.map (Zv z (.int .i64 ((zs.take j).count z+1)) clock l).toArray (if Zg z l=none then clock+1 else clock))) w.1.size (zs.take (j+1)) (Zv z (.int .i64 ((zs.take j).count z+1)) clock l) (if Zg z l=none then clock+1 else clock):=by
    refine⟨q1s I,T.ents.put z _,λs=>?_⟩;rw[q9f,m s,T.look s];by_cases h:s=z
    ·subst h;rw[if_pos rfl,if_pos rfl,if_neg (by omega)];rfl
    ·have R:(if z=s then 1 else 0)=0:=if_neg λe=>h e.symm
     rw[if_neg h,R,Nat.add_zero]
   go_wp2_with fail
   exact⟨⟨j+1,_,_,by omega,by go_num,fin,u.trans ((Rj (S:=λk=>k=w.1.size) _ rfl).below (λk h=>by omega) u.size)⟩,by simp[intOf];omega⟩
  ·have E:j=n:=by omega
   have Y:¬(j:Int)<(n:Int):=by omega
   rw[E,List.take_of_length_le (by omega)] at T;go_wp2;go_ret;exact⟨rfl,⟨l,clock,T⟩,u⟩
end
section
open Go.ChangeMaps (setBlock)
def Ej (w:World)(f:Nat)(e:Array MapEntry):Nat:=match w.1[f]? with|some (.mapIter _ _ seen _)=>(leftOf e seen).size|_=>0
theorem qgw {w:World}{m:Nat}{f:Array MapEntry}{b:Option Nat}{c u:Nat}{e:Array Nat}(h:w.1[m]?=some (.mapIter b c e u)):Ej w m f=(leftOf f e).size:=by unfold Ej;rw[h]
def U9 (P:Pl)(zs:List Int):Prop:=∀z∈zs,(zs.count z:Int)<=P.C.get z
theorem q56 {P:Pl}{z:Int}(h:P.C.get z≠0)(x:Int):(P.C.Qj z).get x=P.C.get x-(if z=x then 1 else 0):=by
 obtain⟨n,rfl,hn⟩:=Uc h;rw[(q2q h).2];by_cases e:(n:Int)=x
 ·subst e;rw[Oh P.C n hn,if_pos rfl,if_pos rfl]
 ·rw[if_neg e];have:(P.C.put n (P.C.get (n:Int)-1)).get x=P.C.get x:=by
   by_cases f:0<=x/\x<(P.C.n:Int)
   ·obtain⟨m,rfl⟩:∃m:Nat,x=(m:Int):=⟨x.toNat,by omega⟩;rw[Oh P.C m (by omega),if_neg (by omega)]
   ·unfold Ct.get;rw[P.C.Zf,if_neg f,if_neg f]
  omega
section
variable {b:Nat}{w:World}{d p:Nat}{S0 S T:Nat->Prop}{D:DM}{P P':Pl}
theorem q3s (H:Qe b w d p S0 S T D P)(hb:1<b)(ht:Tab w)(zs:List Int)(A:Option Addr)(n c:Nat)(hs:Vw w A n c zs)(hn:n<=1000000)(hA:∀k,q01 A=some k->¬S k)(hP:U9 P zs->G8 zs P=some P') :
  Calls Tryz.prog 86 #[.pointer (some ⟨p,0,none⟩),.slice A n c] w λe w'=>(U9 P zs/\e=.returned (.int .i64 0)/\Qe b w' d p S0 S T D P'/\Turn S w w'/\Tab w')\/(¬U9 P zs/\e=.returned (.int .i64 1)/\Below w.1.size w w'):=by
 have hS:=H.low;have hl:=hs.len;rw[List.length_map] at hl;have Ht:=Lib.hid (qrh w zs A n c hs hn);have HP:=Lib.hid hP;clear hP;go_enter Tryz.func86,Tryz.ntmps86
 go_wp2_with fail
 refine Ht.out.mono ?_;rintro e w2 ⟨l,clock,rfl,W,B2⟩;have c6:=run_range_map (P:=Tryz.prog) w2 231 _ _ w.1.size l.toArray clock Tryz.underlying231 W.map;have a8:=Wx W.map;go_wp2_with fail
 have u:(w2.alloc (.mapIter (some w.1.size) clock #[] clock)).1[w2.1.size]?=some (.mapIter (some w.1.size) clock #[] clock):=heap_alloc_new _ _;have B3:Below w.1.size w (w2.alloc (.mapIter (some w.1.size) clock #[] clock)):=B2.alloc (by omega) _;have T3:(w2.alloc (.mapIter (some w.1.size) clock #[] clock)).1[w.1.size]?=some (.map l.toArray clock):=(heap_alloc_old _ _ a8).trans W.map;have E2:=W.ents;have K2:=W.look;generalize w2.alloc (.mapIter (some w.1.size) clock #[] clock)=X at u B3 T3 ⊢;obtain⟨y,a7⟩:∃y,w2.1.size=y:=⟨_,rfl⟩;rw[a7] at u a8 ⊢;clear c6 Ht B2 W a7;go_loopw [] (λwr=>∃(f:Array Nat),wr.1[y]?=some (.mapIter (some w.1.size) clock f clock)/\wr.1[w.1.size]?=some (.map l.toArray clock)/\(∀e∈l,f.contains e.born=true->(zs.count (kI e):Int)<=P.C.get (kI e))/\Below w.1.size w wr) (λwr=>Ej wr y l.toArray)
 case atStart=>exact⟨#[],u,T3,λe _ Y=>(by simp at Y),B3⟩
 case round=>
  clear u T3 B3;obtain⟨f,u,hm,I,K⟩:=hrel;rcases run_next_at (P:=Tryz.prog) wr 0 y w.1.size clock clock f l.toArray clock u hm (λx hx=>E2.clock x (by simpa using hx)) (Nat.le_refl _) with⟨h0,E⟩|⟨e,Y,X,a3,E⟩
  ·have a4:U9 P zs:=λz hz=>by
    have h1:=K2 z;rw[if_neg (by have:=List.count_pos_iff.2 hz;omega)] at h1;obtain⟨e,Y,hk,_⟩:=qdv h1;have h3:f.contains e.born=true:=by
     cases hb:f.contains e.born with
     |true=>rfl
     |false=>
      exfalso
      have:e∈leftOf l.toArray f:=by
       unfold leftOf;rw[Array.mem_filter];exact⟨by simpa using Y,by rw[hb];rfl⟩
      have:=Array.size_pos_of_mem this;omega
    have:=I e Y h3;rw[hk] at this;exact this
   have HP:=Lib.hid (HP.out a4);have H2:=H.below K;have t2:=ht.below K ht.1;have X2:Turn S w wr:=Qu K;clear I K2 E2;go_wp2_with fail
   generalize wr=w4 at H2 t2 X2 ⊢;go_loopw [26] (λi wr=>∃(j:Nat) (J:Pl),j<=n/\i=.int .i64 (j:Int)/\G8 (zs.drop j) J=some P'/\Qe b wr d p S0 S T D J/\Tab wr/\Turn S w wr) (λi _=>n-(intOf i).toNat)
   case atStart=>exact⟨0,P,Nat.zero_le _,rfl,HP.out,H2,t2,X2⟩
   case round=>
    clear H2 t2 X2;obtain⟨j,J,hj,rfl,a2,Hj,tj,Xj⟩:=hrel;have a1:=Lib.hid a2;clear a2;by_cases b6:j<n
    ·obtain⟨g,o,b3,y0,hg⟩:=q55 hs b6;subst b3;have y0:wr.cell? ⟨g,o+j,none⟩=some (.int .i64 (zs.getD j 0)):=(World.cell?_of_block (w:=w) (a:=⟨g,o+j,none⟩) (Xj.block g hg (hA g rfl))).trans y0;have hd:=q9l (zs:=zs) (j:=j) (by omega);obtain⟨z,hz⟩:∃z,zs.getD j 0=z:=⟨_,rfl⟩;rw[hz] at y0 hd;have HD:=Lib.hid hd;clear hz hd;have hr:J.C.Zh z=0/\G8 (zs.drop (j+1)) ⟨J.S,J.C.Qj z,J.L⟩=some P':=by
      have h:=a1.out;rw[HD.out] at h;have h:(if J.C.Zh z=0 then G8 (zs.drop (j+1)) ⟨J.S,J.C.Qj z,J.L⟩ else none)=some P':=h;split at h
      ·rename_i h0;exact⟨h0,h⟩
      ·cases h
     obtain⟨a9,b0⟩:=hr;have HR:=Lib.hid b0;have R:=qe4 Hj hb tj z;rw[a9] at R;have R:=Lib.hid R;clear b0 a9;go_wp2_with fail
     refine R.out.mono ?_;rintro e w5 ⟨rfl,H5,X5,t5⟩;have XX:=Xj.trans X5 λk hk=>.inl hk
     go_wp2;exact⟨⟨j+1,_,by omega,by go_num,HR.out,H5,t5,XX⟩,by simp[intOf];omega⟩
    ·have d1:j=n:=by omega
     have a6:J=P':=by
      have h:=a1.out;rw[List.drop_of_length_le (by omega)] at h;exact Option.some.inj h
     subst a6;have b4:¬(j:Int)<(n:Int):=by omega
     go_wp2;go_ret;exact⟨rfl,Hj,Xj,tj⟩
  ·obtain⟨F,d0⟩:=mem_left Y;have F:e∈l:=by simpa using F
   have b2:=left_shrinks l.toArray f e Y;have b7:Ej wr y l.toArray=(leftOf l.toArray f).size:=qgw u;have c8:=Wx u;have d2:X.1.size=wr.1.size:=by rcases a3 with rfl|rfl<;>rfl
   have W:Turn (λk=>k=y) wr X:=by
    rcases a3 with rfl|rfl
    ·exact Turn.refl _ _
    ·exact (Turn.refl _ _).drew
   have T3:=W.then (Rj (w:=X) (.mapIter (some w.1.size) clock (f.push e.born) clock) (b:=y) (S:=λk=>k=y) rfl);have c7:=K.size;have U:Below w.1.size w (setBlock X y (.mapIter (some w.1.size) clock (f.push e.born) clock)):=K.trans (T3.below (λk h=>by omega) c7);have B:(setBlock X y (.mapIter (some w.1.size) clock (f.push e.born) clock)).1[y]?=some (.mapIter (some w.1.size) clock (f.push e.born) clock):=q1s (by omega);have Z:(setBlock X y (.mapIter (some w.1.size) clock (f.push e.born) clock)).1[w.1.size]?=some (.map l.toArray clock):=(T3.block _ (Wx hm) (by omega)).trans hm;have b5:e.key=.int .i64 (kI e):=E2.key e F;have a0:e.val=.int .i64 (zs.count (kI e):Int)/\zs.count (kI e)≠0:=by
    have h1:=K2 (kI e);rw[q45 E2.one F] at h1;split at h1
    ·cases h1
    ·rename_i h2;exact⟨Option.some.inj h1,h2⟩
   obtain⟨a0,d3⟩:=a0;have a5:zs.count (kI e)<=n:=by rw[<-hl];exact List.count_le_length
   have Q:kI e∈zs:=List.count_pos_iff.1 (by omega);have M:=run_entry_at (P:=Tryz.prog) _ y w.1.size clock f l.toArray clock e B Z (by simpa using F) (by simpa using E2.born);rw[b5,a0] at E M;generalize setBlock X y (.mapIter (some w.1.size) clock (f.push e.born) clock)=w4 at E M B Z U;have H4:=H.below U;have R:=Lib.hid (q1l H4.pool (kI e) _ rfl);have m:(zs.count (kI e):Int)<=P.C.get (kI e)->∀x∈l,(f.push e.born).contains x.born=true->(zs.count (kI x):Int)<=P.C.get (kI x):=λh x hx hc=>by
    rw[contains_push] at hc;rcases Bool.or_eq_true _ _▸hc with hc|hc
    ·exact I x hx hc
    ·have:=born_inj E2.born hx F (by simpa using hc);subst this;exact h
   obtain⟨s,b1⟩:∃s,kI e=s:=⟨_,rfl⟩;obtain⟨q,hq⟩:∃q,zs.count s=q:=⟨_,rfl⟩;rw[b1,hq] at E M;rw[b1] at R m Q a5;rw[hq] at m a5;obtain⟨G,hG⟩:∃G,P.C.get s=G:=⟨_,rfl⟩;rw[hG] at R m;by_cases b4:G<(q:Int)
   ·have b8:¬U9 P zs:=λh=>by have:=h s Q;rw[hq,hG] at this;omega
    clear m I K2 hq hG;go_wp2_with fail
    refine R.out.mono ?_;rintro e5 w5 ⟨rfl,rfl⟩;go_wp2;go_ret;exact .inr ⟨b8,rfl,U⟩
   ·have b9:=Lib.hid (m (by omega));have c9:=Lib.hid I;clear m I hq hG;go_wp2_with fail
    refine R.out.mono ?_;rintro e5 w5 ⟨rfl,rfl⟩;go_wp2;exact⟨⟨_,B,Z,b9.out,U⟩,by rw[qgw B,b7];exact b2⟩
end
end
section
variable {D:DM}{S0:Sp}{C0:Ct}{O H:List Int}{P P' P'':Pl}
structure Only (D:DM)(P P':Pl):Prop where
 get:∀a,P'.C.get a≠0->P.C.get a≠0
 store:∀a,P'.C.get a≠0->P'.store D a=P.store D a
 like:P.like P'
 n:P'.C.n=P.C.n
theorem Only.refl (D:DM)(P:Pl):Only D P P:=⟨λ_ h=>h,λ_ _=>rfl,Pl.like.refl P,rfl⟩
theorem Only.trans (h:Only D P P')(h2:Only D P' P''):Only D P P'':=
 ⟨λa e=>h.get a (h2.get a e),λa e=>(h2.store a e).trans (h.store a (h2.get a e)),h.like.trans h2.like,h2.n.trans h.n⟩
theorem q3t {z:Int}(h:P.C.get z≠0):Only D P ⟨P.S,P.C.Qj z,P.L⟩:=by
 have hn:(P.C.Qj z).n=P.C.n:=by
  obtain⟨c,rfl,_⟩:=Uc h;rw[(q2q h).2,P.C.Zf]
 refine⟨λa f e=>?_,λa f=>?_,q8i P z,hn⟩
 ·have f:(P.C.Qj z).get a≠0:=f;rw[q56 h,e] at f;split at f
  ·rename_i m;exact h (m▸e)
  ·exact f rfl
 ·have f:(P.C.Qj z).get a≠0:=f;rw[q56 h] at f;obtain⟨c,rfl,u⟩:=Uc h;rw[(q2q h).2];by_cases e:a=(c:Int)
  ·subst e;rw[if_pos rfl] at f;exact q7r u h f _
  ·exact (q5e e).2
theorem Only.tell (h:Only D P P'){a:Int}(ha:P'.C.get a≠0):P'.tell D a=P.tell D a:=
 q2t (h.store a ha) ⟨λe=>absurd e ha,λe=>absurd e (h.get a ha)⟩
theorem Only.hide (h:Only D P P'){a:Int}(ha:P'.C.get a≠0):P'.hide D O a=P.hide D O a:=by
 unfold Pl.hide;rw[h.tell ha]
theorem Keep.held (K:Keep D S0 C0 O H P){a:Nat}(ha:(a:Int)∈H)(h0:0<a)(hn:a<P.C.n):P.C.get (a:Int)≠0:=by
 have h1:=K.Vz.eq a h0 hn;have h2:=List.count_pos_iff.2 ha;exact (q84 K.c).1 (by omega)
theorem Keep.Qbt (K:Keep D S0 C0 O H P){a:Nat}(h0:0<a)(hn:a<P.C.n):(H.count (a:Int):Int)<=P.C.get (a:Int):=by
 have h1:=K.Vz.eq a h0 hn;unfold Pl.cnt at h1;have:=(Ct.Zd K.c (a:Int)).1;omega
theorem q8k {c:Int}(h:c∉O):less1 (c::O) c=O:=by
 unfold less1;rw[List.filter_cons];simp only[beq_self_eq_true,Bool.not_true,Bool.false_eq_true,if_false];rw[List.filter_eq_self];intro x f;have:x≠c:=λe=>h (e▸f)
 simp[this]
theorem Keep.away (K:Keep D S0 C0 O H P){c:Nat}{H0:List Int}(ht:P.hide D O (c:Int)=(Yh,0))(hH:∀a:Nat,0<a->a<P.C.n->H.count (a:Int)=((c:Int)::H0).count (a:Int)) :
  P.C.Zh (c:Int)=0/\Keep D S0 C0 O H0 ⟨P.S,P.C.Qj (c:Int),P.L⟩:=by
 obtain⟨y,_,e,hn,h0⟩:=Iy (P:=P) (D:=D) (O:=O) (x:=(c:Int)) (by rw[ht]);obtain rfl:=Int.ofNat.inj e;obtain⟨c0,_⟩:=K.first h0
 have B:=(Ct.Zd K.c (c:Int)).1;by_cases h1:P.C.get (c:Int)=1
 ·have A:(c:Int)∈H:=by
   have:=hH c c0 hn;rw[List.count_cons_self] at this;exact List.count_pos_iff.1 (by omega)
  have u:=K.open_ h1 A y;rw[q3w ht,List.nil_append] at u;obtain⟨m,f,_⟩:=u.drop (List.mem_cons_self ..) hH;rw[q8k y] at f;exact⟨m,f⟩
 ·obtain⟨m,f,_⟩:=K.Qj (by omega) hH;exact⟨m,f⟩
theorem Keep.Qa7:∀(e:List Int) (P:Pl),Keep D S0 C0 O (e++H) P->(∀z∈e,P.hide D O z=(Yh,0))->∃P',G8 e P=some P'/\Keep D S0 C0 O H P'/\Only D P P'
 |[],P,K,_=>⟨P,rfl,K,Only.refl D P⟩
 |z::e,P,K,ht=>by
  have h1:=ht z (List.mem_cons_self ..);obtain⟨_,c,rfl,hn,h0⟩:=Iy (P:=P) (D:=D) (O:=O) (x:=z) (by rw[h1]);obtain⟨B,A⟩:=K.away h1 (H0:=e++H) λ_ _ _=>rfl
  have f:=q3t (D:=D) h0;obtain⟨P',j1,j2,j3⟩:=Keep.Qa7 e _ A λy u=>by
   have h2:=ht y (List.mem_cons_of_mem _ u);obtain⟨_,m,rfl,hm,E⟩:=Iy (P:=P) (D:=D) (O:=O) (x:=y) (by rw[h2]);obtain⟨F,_⟩:=K.first E
   rw[f.hide (A.held (List.mem_append_left _ u) F (by rw[f.n];exact hm))];exact h2
  exact⟨P',by show (if P.C.Zh (c:Int)=0 then _ else none)=_;rw[if_pos B];exact j1,j2,f.trans j3⟩
theorem qd2:∀{l r:List Int} {P f m:Pl},G8 l P=some f->G8 r f=some m->G8 (l++r) P=some m
 |[],r,P,f,m,h,h2=>by
  have:P=f:=Option.some.inj h;subst this;exact h2
 |z::l,r,P,f,m,h,h2=>by
  have h:(if P.C.Zh z=0 then G8 l ⟨P.S,P.C.Qj z,P.L⟩ else none)=some f:=h;show (if P.C.Zh z=0 then G8 (l++r) ⟨P.S,P.C.Qj z,P.L⟩ else none)=some m;split at h
  ·rename_i e;rw[if_pos e];exact qd2 h h2
  ·cases h
theorem qnh {z:Int}(h:P.C.Zh z=0):P.C.get z≠0:=λe=>by
 unfold Ct.Zh at h;rw[if_pos e] at h
 cases h
theorem q2s:∀{l:List Int} {P P':Pl},G8 l P=some P'->∀a,P'.C.get a=P.C.get a-(l.count a:Int)
 |[],P,P',h,a=>by
  have:P=P':=Option.some.inj h;subst this;simp
 |z::l,P,P',h,a=>by
  have h:(if P.C.Zh z=0 then G8 l ⟨P.S,P.C.Qj z,P.L⟩ else none)=some P':=h;split at h
  ·rename_i e;rw[q2s h a];show (P.C.Qj z).get a-_=_;rw[q56 (qnh e),List.count_cons];simp only[beq_iff_eq];split<;>omega
  ·cases h
def Vu (P:Pl)(D:DM)(x:Int):List Int:=if P.C.get x=1/\0<(P.Qa D x).lvl then (P.Qa D x).named else []
def G9 (P:Pl)(D:DM)(x:Int):List Int:=if P.C.get x=1/\¬0<(P.Qa D x).lvl then (P.Qa D x).named++[x] else [x]
structure Qa4 (D:DM)(S0:Sp)(C0:Ct)(H:List Int)(P:Pl)(x:Int)(P':Pl):Prop where
 keep:Keep D S0 C0 [] (Vu P D x++H) P'
 only:Only D P P'
 less:P'.C.get x=P.C.get x-1
 le:∀a,P'.C.get a<=P.C.get a
 kids:∀z∈Vu P D x,P'.Qd D z=0/\(P'.Qa D z).lvl+1=(P.Qa D x).lvl
theorem qen {l:List Int}{x a:Int}:(l++[x]).count a<=(l++x::H).count a:=by
 rw[List.count_append,List.count_append,List.count_cons,List.count_cons,List.count_nil];omega
theorem qxt {x:Int}(K:Keep D S0 C0 [] (x::H) P)(M:P.Qd D x=0):U9 P (G9 P D x)/\∃P',G8 (G9 P D x) P=some P'/\Qa4 D S0 C0 H P x P':=by
 have h0:P.C.get x≠0:=λe=>by
  unfold Pl.Qd at M;rw[if_pos e] at M
  cases M
 obtain⟨c,rfl,cn⟩:=Uc h0;obtain⟨c0,_⟩:=K.first h0
 have hb:=(Ct.Zd K.c (c:Int)).1;have I:U9 P [(c:Int)]:=λz f=>by
  rw[List.mem_singleton.1 f,List.count_singleton_self];omega
 have e0:=(q2q h0).1;have F:G8 [(c:Int)] P=some ⟨P.S,P.C.Qj (c:Int),P.L⟩:=by
  show (if P.C.Zh (c:Int)=0 then _ else none)=_;rw[if_pos e0];rfl
 have E:(P.C.Qj (c:Int)).get (c:Int)=P.C.get (c:Int)-1:=by rw[q56 h0,if_pos rfl]
 by_cases h1:P.C.get (c:Int)=1
 ·have Y:(c:Int)∈(c:Int)::H:=List.mem_cons_self ..;have K1:=K.open_ h1 Y (by simp);have eh:P.hide D [] (c:Int)=P.store D (c:Int):=by rw[Et (by simp)];exact D5 M
  have u:(P.hide D [] (c:Int)).1=P.Qa D (c:Int):=by rw[eh];rfl
  have L:Aq (P.hide D []) (c:Int):=(K.told h0 (by simp)).node (by
   rw[u];have hm:=q1y K.Ze M;by_cases h:(P.Qa D (c:Int)).lvl=0
   ·omega
   ·have:=Fe hm h;omega)
  have hm:=q1y K.Ze M;rw[u] at K1;by_cases hl:0<(P.Qa D (c:Int)).lvl
  ·have G:Vu P D (c:Int)=(P.Qa D (c:Int)).named:=if_pos ⟨h1,hl⟩;have X:G9 P D (c:Int)=[(c:Int)]:=if_neg λh=>h.2 hl
   rw[X];have U:(P.Qa D (c:Int)).named=(P.Qa D (c:Int)).kids.map (·.a):=by
    have:=(Fe hm (by omega)).1;rw[this];unfold Nd.named;simp
   obtain⟨k1,J,_⟩:=K1.drop (c:=c) (H0:=(P.Qa D (c:Int)).named++H) (List.mem_cons_self ..) λa _ _=>by
    rw[List.count_append,List.count_cons,List.count_cons,List.count_append];omega
   rw[q8k (by simp)] at J;have o1:=q3t (D:=D) h0;refine⟨I,_,F,⟨by rw[G];exact J,o1,E,λa=>by have:=q2s F a;omega,λz f=>?_⟩⟩;rw[G] at f;have a0:=f;rw[U] at a0;obtain⟨y,hy,rfl⟩:=List.mem_map.1 a0;obtain⟨q1,q2,_,_⟩:=L.kids y (by rw[u];exact hy);rw[u] at q2;obtain⟨_,m,em,Q,m0⟩:=Iy q1;have a2:0<=(P.hide D [] y.a).1.lvl:=by omega
   obtain⟨s1,s2⟩:=qbo q1 a2;rw[em] at f s1 s2 q2 ⊢;obtain⟨m1,_⟩:=K.first m0
   have hg:=J.held (List.mem_append_left _ f) m1 (by rw[o1.n];exact Q);have Z:=o1.store _ hg;refine⟨(congrArg Prod.snd Z).trans s2,?_⟩;have e1:Pl.Qa ⟨P.S,P.C.Qj (c:Int),P.L⟩ D (m:Int)=P.Qa D (m:Int):=congrArg Prod.fst Z;have e2:(P.hide D [] (m:Int)).1=P.Qa D (m:Int):=congrArg Prod.fst s1;rw[e1,<-e2];exact q2
  ·have G:Vu P D (c:Int)=[]:=if_neg λh=>hl h.2
   have X:G9 P D (c:Int)=(P.Qa D (c:Int)).named++[(c:Int)]:=if_pos ⟨h1,hl⟩;rw[X];have a1:(P.Qa D (c:Int)).lvl=0:=by
    by_cases h:(P.Qa D (c:Int)).lvl=0
    ·exact h
    ·have:=Fe hm h;omega
   have U:(P.Qa D (c:Int)).named=(P.Qa D (c:Int)).items.filterMap Y4:=by
    have:=(q16 hm a1).1;rw[this];unfold Nd.named;simp
   have B:∀z∈(P.Qa D (c:Int)).named,P.hide D [] z=(Yh,0):=λz f=>by
    rw[U] at f;obtain⟨y,hy,e⟩:=List.mem_filterMap.1 f;exact L.data y (by rw[u];exact hy) z e
   have R:∀z∈(P.Qa D (c:Int)).named,z≠(c:Int):=λz f e=>by
    have h2:=B z f;rw[e,Et (by simp)] at h2;exact (q7q K.Ze h2).2 M
   obtain⟨W,j1,j2,j3⟩:=Keep.Qa7 (H:=(c:Int)::H) _ P K1 λz f=>by rw[q1k (R z f)];exact B z f
   have a5:W.C.get (c:Int)=1:=by
    rw[q2s j1,List.count_eq_zero.2 λh=>R _ h rfl,h1];rfl
   obtain⟨k1,J,_⟩:=j2.drop (c:=c) (H0:=H) (List.mem_cons_self ..) λa _ _=>rfl
   rw[q8k (by simp)] at J;have a3:G8 [(c:Int)] W=some ⟨W.S,W.C.Qj (c:Int),W.L⟩:=by
    show (if W.C.Zh (c:Int)=0 then _ else none)=_;rw[if_pos k1];rfl
   have A:=qd2 j1 a3;refine⟨λz f=>?_,_,A,⟨by rw[G];exact J,j3.trans (q3t (by omega)),?_,λa=>by have:=q2s A a;omega,λz f=>by rw[G] at f;cases f⟩⟩
   ·have a4:∃m:Nat,z=(m:Int)/\0<m/\m<P.C.n:=by
     rcases List.mem_append.1 f with h|h
     ·obtain⟨_,m,e,Q,m0⟩:=Iy (P:=P) (D:=D) (O:=[]) (x:=z) (by rw[B z h]);exact⟨m,e,(K.first m0).1,Q⟩
     ·exact⟨c,List.mem_singleton.1 h,c0,cn⟩
    obtain⟨m,rfl,m0,mn⟩:=a4;have q1:=K1.Qbt m0 mn;have q2:=qen (H:=H) (l:=(P.Qa D (c:Int)).named) (x:=(c:Int)) (a:=(m:Int));omega
   ·rw[q2s A,List.count_append,List.count_eq_zero.2 λh=>R _ h rfl,List.count_singleton_self];rfl
 ·have G:Vu P D (c:Int)=[]:=if_neg λh=>h1 h.1
  have X:G9 P D (c:Int)=[(c:Int)]:=if_neg λh=>h1 h.1
  rw[X];obtain⟨k1,J,_⟩:=K.Qj (c:=c) (H0:=H) (by omega) λ_ _ _=>rfl
  exact⟨I,_,F,⟨by rw[G];exact J,q3t h0,E,λa=>by have:=q2s F a;omega,λz f=>by rw[G] at f;cases f⟩⟩
theorem Only.tree {S0':Sp}{C0':Ct}{H':List Int}(h:Only D P P')(K:Keep D S0' C0' [] H' P'):∀(l:Nat) (a:Int) (its:List Qg),P'.C.get a≠0->Qi (P.store D) l a its->Qi (P'.store D) l a its
 |0,a,its,h0,ht=>⟨by rw[h.store a h0];exact ht.1,ht.2⟩
 |l+1,a,its,h0,ht=>by
  obtain⟨kids,parts,e,G,I,J,A⟩:=ht;have f:P'.store D a=(⟨((l+1:Nat):Int),[],kids⟩,0):=by rw[h.store a h0];exact e
  refine⟨kids,parts,f,G,I,J,λj u=>⟨Only.tree h K l _ _ ?_ (A j u).1,(A j u).2⟩⟩;have E:P'.Qd D a=0:=congrArg Prod.snd f;have y:P'.hide D [] a=P'.store D a:=by rw[Et (by simp)];exact D5 E
  have L:Aq (P'.hide D []) a:=(K.told h0 (by simp)).node (by rw[y,f];exact Int.natCast_nonneg _);obtain⟨Q,_⟩:=L.kids (Qh kids j) (by rw[y,f];exact List.mem_of_getElem? (q11 u));obtain⟨_,m,B,F,M⟩:=Iy Q;rw[B];exact M
end
