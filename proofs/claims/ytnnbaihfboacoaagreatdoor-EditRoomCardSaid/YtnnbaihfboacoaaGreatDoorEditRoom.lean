/- EditRoom's walk. -/
import Derived.Test.YtnnbaihfboacoaaGreatDoorEr45
namespace Go.Proofs.YtnnbaihfboacoaaGreatDoor
open Go Go.RowKit Go.Proofs
set_option maxHeartbeats 16000000
set_option maxRecDepth 100000
def X9 (v:List UInt8):List UInt8:=(Zd v).take 28
theorem J7 {k:Kd}(b:k.may=true)(v:List UInt8):Ze ⟨k,X9 v⟩:=by
 refine⟨b,by show (X9 v).length<=28;unfold X9;simp;omega,?_⟩;by_cases h:v.length<=28
 ·have e:X9 v=Zd v:=List.take_of_length_le (by rw[q84];exact h);rw[e];exact q8s _ _
 ·unfold Ko;refine if_neg λ⟨_,h1,_⟩=>?_
  have h1:(X9 v).length=3:=h1;unfold X9 at h1;rw[List.length_take,q84] at h1;omega
theorem Qcx {k:Kd}{v:List UInt8}{l:List Qc}(d:Qd l)(e:Ze ⟨k,v⟩)(b:∀x∈l,Ze x):∀x∈Zo k v false l,Ze x:=λx h=>by
 rcases q41 d x h with rfl|h
 ·exact e
 ·exact b x h
theorem Qdf {k:Kd}{l:List Qc}:(Jv k l).length<=l.length:=List.length_filter_le _ _
theorem Qc5 {k:Kd}{l:List Qc}(b:∀x∈l,Ze x):∀x∈Jv k l,Ze x:=λx h=>b x (List.mem_filter.1 h).1
theorem editRoom_walk (A:Option Addr)(n c:Nat)(os:List Ai)(w:World)(hO:Nv w A n c os)(ht:Tab w) :
  Calls Tryz.prog 7 #[.slice A n c] w λe w'=>e=.returned (.bool true)/\Below w.1.size w w':=by
 have hG:=ht.1;go_enter Tryz.func7,Tryz.ntmps7
 go_wp2_with fail
 refine (q83 w ht).mono ?_;rintro e w1 ⟨rfl,b1⟩;have t1:=ht.below b1 hG;have hM:=Lib.hid (q9a 48 ⟨by omega,by omega⟩ w1 t1);obtain⟨P0,hP⟩:∃P,Pl.fresh 48=P:=⟨_,rfl⟩;rw[hP] at hM;clear hP;go_wp2_with fail
 refine hM.out.mono ?_;rintro e w2 ⟨p0,d,U0,D0,rfl,E2,b2,hU⟩;have a7:=b1.trans (b2.mono b1.size);have hb:1<w1.1.size:=t1.1;have b3:Zb (P0.store D0) 0 []:=.inl ⟨rfl,rfl⟩;clear hM hU;go_wp2_with fail
 go_loopw [4,5,6,7,8,9,10,11,12] (λpv rv iv _ _ _ _ _ _ wr=>∃(i p:Nat) (root:Int) (row:List Qc) (U:Nat->Prop) (D:DM) (P:Pl),i<=n/\i<=100/\iv=.int .i64 (i:Int)/\rv=.int .i64 root/\pv=.pointer (some ⟨p,0,none⟩)/\Ed w1.1.size wr d p U D P (Jr root++[]) (100+2100*i) (2+(i:Int))/\Zb (P.store D) root row/\Qd row/\(∀x∈row,Ze x)/\row.length<=i/\Below w.1.size w wr) (λ_ _ iv _ _ _ _ _ _ _=>100-(intOf iv).toNat)
 case atStart=>exact⟨0,p0,0,[],U0,D0,P0,Nat.zero_le _,Nat.zero_le _,rfl,rfl,rfl,E2,b3,List.Pairwise.nil,λx hx=>(by cases hx),Nat.le_refl _,a7⟩
 case round=>
  clear E2 b3 a7;obtain⟨i,p,root,row,U,D,P,e5,d2,rfl,rfl,rfl,Er,M,m,u,e6,Br⟩:=hrel;by_cases a1:i<n/\i<100
  ·obtain⟨d3,e3⟩:=a1;obtain⟨g,o,rfl,hg,hh,hc⟩:=hO.cell d3;obtain⟨x,hx⟩:∃x,opAt os i=x:=⟨_,rfl⟩;rw[hx] at hh hc;obtain⟨c0,c1,c2,c3,c4⟩:=hc wr Br;have e0:(0:Int)<=(i:Int):=by omega
   have e1:(i:Int)<(n:Int):=by omega
   have e2:(i:Int)<100:=by omega
   have e7:=hO.1.2.1;have d5:=hO.1.2.2.1;unfold maxLen at d5;have X0:RB (wr.alloc (.cells (Qaq x.z x.k x.V x.q x.c).toArray 33)) wr.1.size (Qaq x.z x.k x.V x.q x.c):=RB.new wr _ _;have bx:Below wr.1.size wr (wr.alloc (.cells (Qaq x.z x.k x.V x.q x.c).toArray 33)):=Qm;clear hc hg hx;go_wp2_with fail
   change Calls _ _ _ (wr.alloc (.cells (Qaq x.z x.k x.V x.q x.c).toArray 33)) _;generalize wr.alloc (.cells (Qaq x.z x.k x.V x.q x.c).toArray 33)=w3 at X0 bx ⊢;clear c0 c1 c2 c3 c4;have B3:=Br.trans (bx.mono Br.size);have Ex:=Er.below bx;have d1:∀k,U k->w.1.size<=k:=λk hk=>by have:=(Er.low k hk).1;have:=b1.size;omega
   have e9:=Er.J9;have I:w.1.size<=w1.1.size:=b1.size;obtain⟨mk,W⟩:∃r,x.k.may=r:=⟨_,rfl⟩;refine (q52 x.k mk W w3).mono ?_;rintro e w4 ⟨rfl,b4⟩;have X4:=X0.below b4 X0.lt;have B4:=B3.trans (b4.mono B3.size);have E4:=Ex.below b4;clear Er X0 bx B3 Ex b4
   cases mk with
   |false=>
    go_wp2_with fail
    exact⟨⟨i+1,p,root,row,U,D,P,by omega,by omega,by go_num,rfl,rfl,E4.weak (by omega) (by omega),M,m,u,by omega,B4⟩,by simp[intOf];omega⟩
   |true=>
    have T:=Lib.hid (q5x x.z 8 hh.z (by omega) (by omega));obtain⟨s,hs⟩:∃s,md x.z 8=s:=⟨_,rfl⟩;have d6:s<8:=by rw[<-hs];exact quq _ (by omega)
    rw[hs] at T;have x0:=X4.cell 0 rfl;clear hs;go_wp2_with fail
    refine (T.out w4).mono ?_;rintro e f1 ⟨rfl,rfl⟩;by_cases h7:s=7
    ·subst h7;have HC:=Lib.hid (E4.commit hb (by omega) (by omega));clear T x0 d6;go_wp2_with fail
     refine HC.out.mono ?_;rintro e w5 ⟨rfl,E5,X5,b9⟩;have Z:=B4.trans (X5.below d1 B4.size);have d0:Zb (P.done.store (D.Qk P.steps)) root row:=by
      rcases M with⟨rfl,rfl⟩|⟨l,h0,h1,h2,h3⟩
      ·exact .inl ⟨rfl,rfl⟩
      ·exact .inr ⟨l,h0,b9 _ _ _ h1,h2,h3⟩
     go_wp2_with fail
     exact⟨⟨i+1,p,root,row,_,_,_,by omega,by omega,by go_num,rfl,rfl,E5.weak (by omega) (by omega),d0,m,u,by omega,Z⟩,by simp[intOf];omega⟩
    ·have s7:((s:Int)==7)=false:=by simp;omega
     have f0:decide ((s:Int)=7)=false:=decide_eq_false (by omega);have a2:=Lib.hid E4.clone;clear x0;go_wp2_with fail
     refine a2.out.mono ?_;rintro e w5 ⟨q,rfl,b5,C5⟩;have X5:=X4.below b5 X4.lt;have Z:=B4.trans (b5.mono B4.size);have b7:=Lib.hid (C5.ed.free P.C.free rfl);have x0:=X5.cell 0 rfl;obtain⟨J,B⟩:∃f,P.C.free=f:=⟨_,rfl⟩;rw[B] at b7;replace B:=Lib.hid B;clear a2;go_wp2_with (first
      |(go_at_call 28;refine b7.out.mono ?_;rintro e d7 ⟨rfl,rfl⟩)
      |fail)
     refine (T.out w5).mono ?_;rintro e d7 ⟨rfl,rfl⟩;clear x0 T;by_cases h5:s<5
     ·have x4:=X5.cell 4 rfl;have a6:=Lib.hid (q4i x.v x.V x.q x.c w5 (hh.sl.below Z) hh.few);have c9:(s:Int)<5:=by omega
      go_wp2_with fail
      refine a6.out.mono ?_;rintro e w6 ⟨A6,c6,rfl,O6,b6⟩;have X6:=X5.below b6 X5.lt;have C6:=C5.below b6;have d9:=O6.sl.cap;have d4:=O6.sl.max;unfold maxLen at d4;have e8:=(hh.sl.below Z).len;have c7:∀g,q01 A6=some g->w5.1.size<=g:=λg hg=>by
       cases hA:A6 with
       |none=>rw[hA] at hg;cases hg
       |some ad=>
        rw[hA] at hg;obtain rfl:ad.block=g:=Option.some.inj hg;exact (O6.block ad hA).1
      have x1:=X6.cell 1 rfl;have x2:=X6.cell 2 rfl;have x3:=X6.cell 3 rfl;clear x4 a6;by_cases e4:28<x.q
      ·have b0:(28:Int)<(x.q:Int):=by omega
       have d8:(28:Int)<=(c6:Int):=by omega
       have s6:Sl w6 A6 28 c6 (X9 x.v):=O6.sl.take (by omega);have HP:=Lib.hid (C6.put hb M m u x.k (X9 x.v) (J7 W x.v) (by omega) A6 28 c6 s6 (λ_=>c7));go_wp2_with fail
       refine HP.out.mono ?_;rintro e w7 H7;rcases H7 with⟨r,P',U',rfl,F,O,Q,K⟩|⟨⟨v,y,rfl,X⟩,F,K⟩
       ·as_aux_lemma=>
        have hz:=F.U6;have Y:=C5.ed.U6;obtain⟨f7,E⟩:∃f,P'.C.free=f:=⟨_,rfl⟩;have hF:=Lib.hid (F.free f7 E);have b:=B.out;have hd:IntKind.i64.wrap ((J:Int)-(f7:Int))=(J:Int)-(f7:Int):=IntWalk.i64_in _ (by omega);have b8:¬(17:Int)<(J:Int)-(f7:Int):=by omega
        replace b:=Lib.hid b;have G:=Z.trans ((b6.mono C5.ed.J9).trans K |>.mono I);have H:=(F.weak (m':=100+2100*(i+1)) (g':=2+((i+1:Nat):Int)) (by omega) (by omega));clear E Q hz Y;go_wp2_with (first
         |(go_at_call 28;refine hF.out.mono ?_;rintro e c8 ⟨rfl,rfl⟩)
         |fail)
        exact⟨⟨i+1,q,r,Zo x.k (X9 x.v) false row,U',D,P',by omega,by omega,by go_num,rfl,rfl,H,O,q25 m,Qcx m (J7 W x.v) u,(by have:=q5f (k:=x.k) (v:=X9 x.v) m;omega),G⟩,by simp[intOf];omega⟩
       ·as_aux_lemma=>
        have G:=Z.trans ((b6.mono C5.ed.J9).trans K |>.mono I);have H:=(F.weak (m':=100+2100*(i+1)) (g':=2+((i+1:Nat):Int)) (by omega) (by omega));have b:=B.out;rcases X with rfl|⟨rfl,X⟩
        ·clear b;go_wp2_with fail
         exact⟨⟨i+1,p,root,row,U,D,P,by omega,by omega,by go_num,rfl,rfl,H,M,m,u,by omega,G⟩,by simp[intOf];omega⟩
        ·have a8:¬(17:Int)<=(J:Int):=by omega
         clear b X;go_wp2_with fail
         exact⟨⟨i+1,p,root,row,U,D,P,by omega,by omega,by go_num,rfl,rfl,H,M,m,u,by omega,G⟩,by simp[intOf];omega⟩
      ·have b0:¬(28:Int)<(x.q:Int):=by omega
       have s6:Sl w6 A6 x.q c6 (X9 x.v):=by
        have e:X9 x.v=Zd x.v:=List.take_of_length_le (by rw[q84];omega);rw[e];exact O6.sl
       have HP:=Lib.hid (C6.put hb M m u x.k (X9 x.v) (J7 W x.v) (by omega) A6 x.q c6 s6 (λ_=>c7));go_wp2_with fail
       refine HP.out.mono ?_;rintro e w7 H7;rcases H7 with⟨r,P',U',rfl,F,O,Q,K⟩|⟨⟨v,y,rfl,X⟩,F,K⟩
       ·as_aux_lemma=>
        have hz:=F.U6;have Y:=C5.ed.U6;obtain⟨f7,E⟩:∃f,P'.C.free=f:=⟨_,rfl⟩;have hF:=Lib.hid (F.free f7 E);have b:=B.out;have hd:IntKind.i64.wrap ((J:Int)-(f7:Int))=(J:Int)-(f7:Int):=IntWalk.i64_in _ (by omega);have b8:¬(17:Int)<(J:Int)-(f7:Int):=by omega
        replace b:=Lib.hid b;have G:=Z.trans ((b6.mono C5.ed.J9).trans K |>.mono I);have H:=(F.weak (m':=100+2100*(i+1)) (g':=2+((i+1:Nat):Int)) (by omega) (by omega));clear E Q hz Y;go_wp2_with (first
         |(go_at_call 28;refine hF.out.mono ?_;rintro e c8 ⟨rfl,rfl⟩)
         |fail)
        exact⟨⟨i+1,q,r,Zo x.k (X9 x.v) false row,U',D,P',by omega,by omega,by go_num,rfl,rfl,H,O,q25 m,Qcx m (J7 W x.v) u,(by have:=q5f (k:=x.k) (v:=X9 x.v) m;omega),G⟩,by simp[intOf];omega⟩
       ·as_aux_lemma=>
        have G:=Z.trans ((b6.mono C5.ed.J9).trans K |>.mono I);have H:=(F.weak (m':=100+2100*(i+1)) (g':=2+((i+1:Nat):Int)) (by omega) (by omega));have b:=B.out;rcases X with rfl|⟨rfl,X⟩
        ·clear b;go_wp2_with fail
         exact⟨⟨i+1,p,root,row,U,D,P,by omega,by omega,by go_num,rfl,rfl,H,M,m,u,by omega,G⟩,by simp[intOf];omega⟩
        ·have a8:¬(17:Int)<=(J:Int):=by omega
         clear b X;go_wp2_with fail
         exact⟨⟨i+1,p,root,row,U,D,P,by omega,by omega,by go_num,rfl,rfl,H,M,m,u,by omega,G⟩,by simp[intOf];omega⟩
     ·have c9:¬(s:Int)<5:=by omega
      have x1:=X5.cell 1 rfl;have x2:=X5.cell 2 rfl;have x3:=X5.cell 3 rfl;have HD:=Lib.hid (C5.del hb M m u x.k (by omega));go_wp2_with fail
      refine HD.out.mono ?_;rintro e w7 H7;rcases H7 with⟨r,P',U',rfl,F,O,Q,K⟩|⟨⟨v,y,rfl,X⟩,F,K⟩
      ·as_aux_lemma=>
       have hz:=F.U6;have Y:=C5.ed.U6;obtain⟨f7,E⟩:∃f,P'.C.free=f:=⟨_,rfl⟩;have hF:=Lib.hid (F.free f7 E);have b:=B.out;have hd:IntKind.i64.wrap ((J:Int)-(f7:Int))=(J:Int)-(f7:Int):=IntWalk.i64_in _ (by omega);have b8:¬(17:Int)<(J:Int)-(f7:Int):=by omega
       replace b:=Lib.hid b;have G:=Z.trans (K.mono I);have H:=(F.weak (m':=100+2100*(i+1)) (g':=2+((i+1:Nat):Int)) (by omega) (by omega));clear E Q hz Y;go_wp2_with (first
        |(go_at_call 28;refine hF.out.mono ?_;rintro e c8 ⟨rfl,rfl⟩)
        |fail)
       exact⟨⟨i+1,q,r,Jv x.k row,U',D,P',by omega,by omega,by go_num,rfl,rfl,H,O,qq7 m,Qc5 u,(by have:=Qdf (k:=x.k) (l:=row);omega),G⟩,by simp[intOf];omega⟩
      ·as_aux_lemma=>
       have G:=Z.trans (K.mono I);have H:=(F.weak (m':=100+2100*(i+1)) (g':=2+((i+1:Nat):Int)) (by omega) (by omega));have b:=B.out;rcases X with rfl|⟨rfl,X⟩
       ·clear b;go_wp2_with fail
        exact⟨⟨i+1,p,root,row,U,D,P,by omega,by omega,by go_num,rfl,rfl,H,M,m,u,by omega,G⟩,by simp[intOf];omega⟩
       ·have a8:¬(17:Int)<=(J:Int):=by omega
        clear b X;go_wp2_with fail
        exact⟨⟨i+1,p,root,row,U,D,P,by omega,by omega,by go_num,rfl,rfl,H,M,m,u,by omega,G⟩,by simp[intOf];omega⟩
  ·have R:¬((i:Int)<(n:Int)/\(i:Int)<100):=λh=>a1 ⟨by omega,by omega⟩
   by_cases h1:(i:Int)<(n:Int)
   ·have h3:¬(i:Int)<100:=λh=>R ⟨h1,h⟩
    clear R a1;go_wp2_with fail
    go_ret;exact⟨rfl,Br⟩
   ·clear R a1;go_wp2_with fail
    go_ret;exact⟨rfl,Br⟩
