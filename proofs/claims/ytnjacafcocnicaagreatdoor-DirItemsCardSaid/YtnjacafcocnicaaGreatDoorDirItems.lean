/- The statement DirItems: the walk. -/
import Derived.Test.YtnjacafcocnicaaGreatDoorFdEv1
import Derived.Test.YtnjacafcocnicaaGreatDoorDjC
import Derived.Test.YtnjacafcocnicaaGreatDoorDv43
namespace Go.Proofs.YtnjacafcocnicaaGreatDoor
open Go Go.RowKit Go.Proofs Tryz
set_option maxHeartbeats 16000000
set_option maxRecDepth 100000
theorem Yc.whole {b:Nat}{w:WD}{d p:Nat}{U Q V:NP}{D:DM}{P:Pl}{m:Nat}{g:Int}{root:Int}{L:Nat->List De}{lim:Nat}(h:Yc b w d p U Q V D P root L lim m g)(hl:lim<=80):Qo (tri L)/\(∀x∈tri L,Zx x)/\(tri L).length<=150:=by
 obtain⟨A,C,X,q,_,e⟩:=h.one hl (k:=0) (by omega);have h1:=q (L 0);rw[qi7] at h1;have f:=h.Ze.rows 0 (by omega);rw[h1];exact⟨X.Qo f,X.fine f (by omega),e⟩
def Eu (L:Nat->List De)(k:Nat):Nat:=if k=0 then 0 else if k=1 then (L 0).length else if k=2 then (L 0).length+(L 1).length else (tri L).length
theorem qus (L:Nat->List De){k:Nat}(e:k<3):Eu L (k+1)=Eu L k+(L k).length:=by
 rcases (show k=0\/k=1\/k=2 by omega) with rfl|rfl|rfl
 ·show (L 0).length=0+_;omega
 ·rfl
 ·show (tri L).length=_;rw[q6l];show _=(L 0).length+(L 1).length+(L 2).length;omega
theorem qBk (L:Nat->List De){k i:Nat}(e:k<3)(hi:i<(L k).length):Zc (tri L) (Eu L k+i)=X0 ((k:Int)+1) (Ap (L k) i):=by
 have hd:∀(j:Int) (l:List De) (i:Nat),i<l.length->(Qe j l)[i]?=some (X0 j (Ap l i)):=λj l i h=>by
  unfold Qe;rw[BA,q7f h];rfl
 unfold Zc;rw[AG];unfold tri;rcases (show k=0\/k=1\/k=2 by omega) with rfl|rfl|rfl
 ·rw[show Eu L 0+i=i from AT i,List.getElem?_append_left (by rw[Ny];exact hi),hd _ _ _ hi];rfl
 ·rw[show Eu L 1=(L 0).length from rfl,List.getElem?_append_right (by rw[Ny];omega),Ny,Nat.add_sub_cancel_left,List.getElem?_append_left (by rw[Ny];exact hi),hd _ _ _ hi];rfl
 ·rw[show Eu L 2=(L 0).length+(L 1).length from rfl,List.getElem?_append_right (by rw[Ny];omega),Ny,show (L 0).length+(L 1).length+i-(L 0).length=(L 1).length+i by omega,List.getElem?_append_right (by rw[Ny];omega),Ny,Nat.add_sub_cancel_left,List.getElem?_append_left (by rw[Ny];exact hi),hd _ _ _ hi];rfl
theorem dirItems_walk (A:OA)(n c:Nat)(os:List Pz)(w:WD)(hO:Qad w A n c os)(ht:Tab w) :
  Calls prog 4 #[.slice A n c] w λe w'=>e=.returned (.bool true)/\Below w.1.size w w':=by
 have hG:=ht.1;have g8:=hO.1.cap;have g1:=hO.1.max;unfold maxLen at g1;go_enter func4,ntmps4
 go_wp2_with fail
 refine (qbo w ht).mono ?_;rintro e w1 ⟨rfl,b1⟩;have t1:=ht.below b1 hG;have z1:=b1.size;go_wp2_with fail
 refine (q8l 512 ⟨by omega,by omega⟩ w1 t1).mono ?_;rintro e V ⟨p,d0,U,D,rfl,E2,b2,hU⟩;have b3:Below V.1.size V (V.alloc (.cells #[.pointer (some ⟨p,0,none⟩),.int .i64 0,.slice none 0 0,.slice none 0 0,.slice none 0 0] 29)):=Qi;have c8:V.1.size<(V.alloc (.cells #[.pointer (some ⟨p,0,none⟩),.int .i64 0,.slice none 0 0,.slice none 0 0,.slice none 0 0] 29)).1.size:=by simp
 have P3:=qkw E2 b3 (IB.new V (Uf p 0 λ_=>(none,0,0)) 29) c8;have c3:=P3.blk.cell 0 rfl;have B3:Below w.1.size w (V.alloc (.cells #[.pointer (some ⟨p,0,none⟩),.int .i64 0,.slice none 0 0,.slice none 0 0,.slice none 0 0] 29)):=b1.trans ((b2.mono z1).trans (b3.mono (AZ z1 b2.size)));have e7:1<w1.1.size:=t1.1;have K:∀k,U k->w.1.size<=k:=λk hk=>by have:=hU k hk;omega
 have g5:w.1.size<=V.1.size:=AZ z1 b2.size;clear E2 t1;go_wp2_with fail
 generalize V.alloc (.cells #[.pointer (some ⟨p,0,none⟩),.int .i64 0,.slice none 0 0,.slice none 0 0,.slice none 0 0] 29)=w3 at b3 c8 P3 B3 c3 ⊢;go_wp2_with fail
 obtain⟨q,hq⟩:∃q,V.1.size=q:=⟨_,rfl⟩;rw[hq] at P3 g5 ⊢;clear b3 c8 c3 b2 hq;go_loopw [5] (λiv wr=>Qae w.1.size w1.1.size w q d0 p n U iv wr) (λiv _=>n-(intOf iv).toNat)
 case atStart=>exact⟨0,U,D,_,0,_,_,AW _,AW _,rfl,P3,B3,K⟩
 case round=>
  clear P3 B3 K;obtain⟨j,U',D',P',r,L,T,i7,d4,rfl,S,BB,K⟩:=hrel;have d9:=BB.size;by_cases f9:j<n/\j<80
  ·obtain⟨b7,g9⟩:=f9;obtain⟨i1,oo,rfl,i4,P,b5⟩:=hO.cell b7;obtain⟨o,ho⟩:∃o,Gm os j=o:=⟨_,rfl⟩;rw[ho] at P b5;obtain⟨c0,c1,c2,c3,c4⟩:=b5 wr BB;have hD:=HI (qg0 S e7 (by omega) (by omega) (by omega) o P);have e0:(0:Int)<=(j:Int):=by omega
   have e1:(j:Int)<(n:Int):=by omega
   have e2:(j:Int)<80:=by omega
   clear b5;go_wp2_with fail
   refine hD.out.mono ?_;rintro e w5 ⟨rfl,U5,D5,P5,r5,L5,T5,S5,X5,f2⟩;clear hD c0 c1 c2 c3 c4;go_wp2_with fail
   have B5:=BB.trans (X5.below (λk hk=>hk.elim (λh=>by omega) (K k)) d9);exact⟨⟨j+1,U5,D5,P5,r5,L5,T5,by omega,by omega,by go_num,by have:=S5;rw[show 100+2100*(j+1)=100+2100*j+2100 by omega,show (2:Int)+((j+1:Nat):Int)=2+(j:Int)+1 by omega];exact this,B5,λk hk=>by
    rcases (f2 k hk).1 with h|h
    ·exact K k h
    ·omega⟩,by simp[intOf];omega⟩
  ·obtain⟨hr,hf,d5⟩:=S.Jv.whole d4;have d8:=HI ((S.Jv.Ze.ed.D8 S.Jv.Ze.tree hr d5).Ri S.Jv.Ze.ed.tab ⟨0,0,0⟩ ⟨2147483647,255,2147483647⟩ 1000 (tri L) (by
    rw[qpo λx hx=>(hf x hx).1,AN];show _<=1000;omega))
   have x0:=S.blk.cell 0 rfl;have x1:=S.blk.cell 1 rfl;have HS:=HI S;clear S hr hf;have b4:(¬(j:Int)<(n:Int))\/((j:Int)<(n:Int)/\¬(j:Int)<80):=by omega
   rcases b4 with g2|⟨g2,i0⟩
   all_goals (
    go_wp2_with fail
    refine d8.out.mono ?_;rintro e w6 ⟨A6,n6,c6,rfl,Y,b6⟩;have d7:=Y.Y3.len;obtain⟨f3,d6⟩:=Y.Y3.bounds;unfold maxLen at d6;have S6:=HS.out.below b6;have c9:=BB.trans (b6.mono d9);have g7:=c9.size;have e3:=HI Y;have a7:=HI S6;clear d8 HS S6 x0 x1 Y;go_wp2_with fail
    go_loopw [9,10] (λav kv wx=>∃k N:Nat,k<=3/\RowKit.Hid (N=Eu L k)/\av=.int .i64 (N:Int)/\kv=.int .i64 (k:Int)/\Below w6.1.size w6 wx) (λ_ kv _=>3-(intOf kv).toNat)
    case atStart=>exact⟨0,0,by omega,rfl,rfl,rfl,AI _ _⟩
    case round=>
     obtain⟨k,N,hk,hN,rfl,rfl,Bx⟩:=hrel;by_cases B:k<3
     ·have d2:=qus L B;have f1:=HI d2;have e0:(0:Int)<=(k:Int):=by omega
      have e1:(k:Int)<3:=by omega
      have Q:=a7.out.lens k B;have d3:Eu L k+(L k).length<=n6:=by
       rw[<-d7,q6l];rcases (show k=0\/k=1\/k=2 by omega) with rfl|rfl|rfl
       ·show 0+_<=_;omega
       ·show (L 0).length+_<=_;omega
       ·show (L 0).length+(L 1).length+_<=_;omega
      have e4:=HI d3;have d1:=HI Q;clear d2 d3 Q;go_wp2_with fail
      go_loopw [9,11] (λav iv wy=>∃i M:Nat,i<=(T k).2.1/\RowKit.Hid (M=Eu L k+i)/\av=.int .i64 (M:Int)/\iv=.int .i64 (i:Int)/\Below w6.1.size w6 wy) (λ_ iv _=>(T k).2.1-(intOf iv).toNat)
      case atStart=>exact⟨0,N,AW _,hN,rfl,rfl,Bx⟩
      case round=>
       obtain⟨i,M,hi,hM,rfl,rfl,By⟩:=hrel;have SY:=a7.out.below By;have F:=qbp SY.blk B;by_cases b7:i<(T k).2.1
       ·have i5:(0:Int)<=(i:Int):=by omega
        have i6:(i:Int)<((T k).2.1:Int):=by omega
        have a6:i<(L k).length:=by have:=d1.out;omega
        have e9:M<n6:=by have:=hM.out;have:=e4.out;omega
        have i2:(0:Int)<=(M:Int):=by omega
        have i3:(M:Int)<(n6:Int):=by omega
        obtain⟨gb,o,W,p1,q1,rfl,hg,y0,y1,y2,y3,hs⟩:=(e3.out.Y3.below By).cell e9;rw[show Zc (tri L) M=X0 ((k:Int)+1) (Ap (L k) i) by rw[hM.out];exact qBk L B a6] at y0 y1 y2 hs;have hD:=SY.Jv.Ze.rows k B;have H:=hD.may _ (qfi a6);obtain⟨O,G⟩:=qfr (Ap (L k) i).2 H;obtain⟨gr,i8,b0,Z,m⟩:=(SY.row k B).at_ b7;rw[show Zm (J5 (L k)) i=(Ap (L k) i).2 by
         have h1:=q1y (l:=J5 (L k)) (j:=i) (by rw[q2u];exact a6);unfold J5 at h1;rw[BA,q7f a6] at h1;exact (OI h1).symm] at m
        obtain⟨x,hx⟩:∃x,Ap (L k) i=x:=⟨_,rfl⟩;rw[hx] at y0 y1 y2 hs H O G m;change wr.cell? ⟨gb,o+M*4,none⟩=some (.int .i64 ((k:Int)+1)) at y0;change wr.cell? ⟨gb,o+M*4+1,none⟩=some (.int .i64 2) at y1;change wr.cell? ⟨gb,o+M*4+2,none⟩=some (.int .i64 x.1) at y2;change Sl wr W p1 q1 x.2.bytes at hs;have g3:p1<=1000000:=by have:=hs.len;rw[q8q] at this;have h2:=(Bool.and_eq_true_iff.1 H).1;have h3:=AK h2;omega
        have hE:=qcl W p1 q1 x.2.bytes wr hs g3;rw[(q5w G).1,(q5w G).2,O] at hE;replace hE:=HI hE;have r0:=m 0 _ rfl;have r1:=m 1 _ rfl;have r2:=m 2 _ rfl;have e5:=HI SY;rw[b0] at F;have e6:=HI b0;clear hx H O G hs m hD SY b0;go_wp2_with fail
        refine hE.out.mono ?_;rintro e R ⟨rfl,b8⟩;have b9:Below R.1.size R (R.alloc (.cells #[.string x.2.name,.int .i64 x.2.ino,.int .i64 x.2.kind] 32)):=Qi;have E9:IB (R.alloc (.cells #[.string x.2.name,.int .i64 x.2.ino,.int .i64 x.2.kind] 32)) R.1.size [.string x.2.name,.int .i64 x.2.ino,.int .i64 x.2.kind]:=IB.new _ _ _;have B9:=b8.trans (b9.mono b8.size);have z0:=(B9.cell (p:=⟨gb,o+M*4,none⟩) hg).trans y0;have z1:=(B9.cell (p:=⟨gb,o+M*4+1,none⟩) hg).trans y1;have z2:=(B9.cell (p:=⟨gb,o+M*4+2,none⟩) hg).trans y2;clear hE y0 y1 y2 y3;go_wp2_with fail
        have X:Below (R.alloc (.cells #[.string x.2.name,.int .i64 x.2.ino,.int .i64 x.2.kind] 32)).1.size (R.alloc (.cells #[.string x.2.name,.int .i64 x.2.ino,.int .i64 x.2.kind] 32)) ((R.alloc (.cells #[.string x.2.name,.int .i64 x.2.ino,.int .i64 x.2.kind] 32)).alloc (.cells #[.int .i64 ((k:Int)+1),.int .i64 2,.int .i64 x.1] 45)):=Qi;have J:IB ((R.alloc (.cells #[.string x.2.name,.int .i64 x.2.ino,.int .i64 x.2.kind] 32)).alloc (.cells #[.int .i64 ((k:Int)+1),.int .i64 2,.int .i64 x.1] 45)) (R.alloc (.cells #[.string x.2.name,.int .i64 x.2.ino,.int .i64 x.2.kind] 32)).1.size [.int .i64 ((k:Int)+1),.int .i64 2,.int .i64 x.1]:=IB.new _ _ _;rw[BH] at J;have I:=E9.below X E9.lt;have y:=B9.trans (X.mono B9.size);clear z0 z1 z2;generalize (R.alloc (.cells #[.string x.2.name,.int .i64 x.2.ino,.int .i64 x.2.kind] 32)).alloc (.cells #[.int .i64 ((k:Int)+1),.int .i64 2,.int .i64 x.1] 45)=f at J I y X ⊢;clear b9 E9 B9 X;have hw:IntKind.i64.wrap ((k:Int)+1)=(k:Int)+1:=IntWalk.i64_in _ (by omega);have zE:=I.lt;have zK:=J.lt;have a8:=e5.out.below y;have zq:=a8.blk.lt;have zg:gr<f.1.size:=Nat.lt_of_lt_of_le Z y.size;have a0:=λu:Grown f=>Grown.cell (I.cell 0 rfl) zE u
        have a1:=λu:Grown f=>Grown.cell (I.cell 1 rfl) zE u
        have a2:=λu:Grown f=>Grown.cell (I.cell 2 rfl) zE u
        have k0:=λu:Grown f=>Grown.cell (J.cell 0 rfl) zK u
        have k1:=λu:Grown f=>Grown.cell (J.cell 1 rfl) zK u
        rw[Nat.add_zero] at r0;have s0:=λu:Grown f=>Grown.cell ((y.cell (p:=⟨gr,_,none⟩) Z).trans r0) zg u
        have s1:=λu:Grown f=>Grown.cell ((y.cell (p:=⟨gr,_,none⟩) Z).trans r1) zg u
        have s2:=λu:Grown f=>Grown.cell ((y.cell (p:=⟨gr,_,none⟩) Z).trans r2) zg u
        have E:=qbp a8.blk B;rw[e6.out] at E;have c7:=λu:Grown f=>Grown.cell E zq u
        have f4:=λ(xs ys:Array Value) (u:WD)=>qes .neq (.inr rfl) (.tmp 88) (.tmp 95) xs ys u
        have g4:=qyv;clear F E r0 r1 r2 a8;refine Ux (by kernel_rfl) (by kernel_rfl) ?_;repeat (go_big_quiet_step (fail))
        refine wpQuiet_nil ?_;rintro _ ⟨u,rfl⟩;have Bu:=(By.trans (y.mono By.size)).trans (u.ok.mono (AZ By.size y.size));have e8:M+1=Eu L k+(i+1):=by have:=hM.out;omega
        clear a0 a1 a2 k0 k1 s0 s1 s2 c7 f4 g4;go_wp2_with fail
        exact⟨⟨i+1,M+1,by omega,e8,by go_num,by go_num,Bu⟩,by simp[intOf];omega⟩
       ·have g0:i=(T k).2.1:=by omega
        clear F SY;have g6:=qbp (a7.out.below By).blk B;go_wp2_with fail
        exact⟨⟨k+1,M,by omega,HI (by rw[f1.out,hM.out,g0,d1.out]),rfl,by go_num,By⟩,by simp[intOf];omega⟩
     ·have ek:k=3:=by omega
      subst ek;have f0:N=n6:=by rw[hN.out,<-d7];rfl
      go_wp2_with fail
      go_ret;exact⟨by rw[f0];simp,c9.trans (Bx.mono g7)⟩)
