/- The reference's Row: any items put into a row -/
import Derived.Test.YtnnbaihfboacoaaGreatDoorFdEv1
import Derived.Test.YtnnbaihfboacoaaGreatDoorFrCf
namespace Go.Proofs.YtnnbaihfboacoaaGreatDoor
open Go Go.RowKit Go.Proofs
set_option maxHeartbeats 16000000
set_option maxRecDepth 100000
theorem qqo {L out:List Qc}{j:Nat}(b:j<L.length):U7 (L.drop j) out=U7 (L.drop (j+1)) (if (Qj L j).k.may=true then Zo (Qj L j).k ((Qj L j).v.take 28) false out else out):=by
 rw[q9w b,U7]
theorem qqp {l:List Qc}{m j:Nat}(h:j<m):Qj (l.take m) j=Qj l j:=by
 unfold Qj;rw[List.getD_eq_getElem?_getD,List.getD_eq_getElem?_getD,List.getElem?_take,if_pos h]
theorem qgw (A:Option Addr)(n c:Nat)(l:List Qc)(m:Nat)(w:World)(hI:Zl w A n c l)(hm:m<=300) :
  Calls Tryz.prog 32 #[.slice A n c,.int .i64 (m:Int)] w λe U=>∃H n' P,e=.returned (.slice H n' P)/\Zg (λ(V:Option Addr) (_:List UInt8)=>∀g,q01 V=some g->w.1.size<=g) U H n' P (U7 (l.take m) [])/\(∀g,q01 H=some g->w.1.size<=g)/\Below w.1.size w U:=by
 obtain⟨F,hF⟩:∃F:Option Addr->List UInt8->Prop,F=(λ(V:Option Addr) (_:List UInt8)=>∀g,q01 V=some g->w.1.size<=g):=⟨_,rfl⟩;have HF:∀f:World,w.1.size<=f.1.size->∀V v,(∀g,q01 V=some g->f.1.size<=g)->F V v:=λf hz V v h=>by rw[hF];exact λg I=>Nat.le_trans hz (h g I)
 replace HF:=Lib.hid HF;rw[<-hF];clear hF;have hl:=Lib.hid hI.len;obtain⟨R,a1⟩:∃R,U7 (l.take m) []=R:=⟨_,rfl⟩;have hR:U7 ((l.take m).drop 0) []=R:=a1;rw[a1];clear a1;go_enter Tryz.func32,Tryz.ntmps32
 go_wp2_with fail
 have B1:Below w.1.size w (w.alloc (.cells #[] 68)):=Qm;have I0:=(q26 (F:=F) w).Gn;have A0:∀g,q01 (some (⟨w.1.size,0,none⟩:Addr))=some g->w.1.size<=g:=λg I=>by have:=Option.some.inj I;show w.1.size<=g;exact Nat.le_of_eq this
 replace A0:=Lib.hid A0;generalize w.alloc (.cells #[] 68)=w1 at B1 I0 ⊢;go_loopw [5,6,7,8] (λlv i _ _ wr=>∃(j q:Nat) (H:Option Addr) (P:Nat) (out:List Qc),j<=n/\j<=m/\q<=j/\i=.int .i64 (j:Int)/\lv=.slice H q P/\Zg F wr H q P out/\(∀g,q01 H=some g->w.1.size<=g)/\Qd out/\U7 ((l.take m).drop j) out=R/\Below w.1.size w wr) (λ_ i _ _ _=>n-(intOf i).toNat)
 case atStart=>exact⟨0,0,_,_,[],Nat.zero_le _,Nat.zero_le _,Nat.le_refl _,rfl,rfl,I0,A0.out,List.Pairwise.nil,hR,B1⟩
 case round=>
  clear I0 B1 hR A0;obtain⟨j,q,H,P,out,c6,b9,c7,rfl,rfl,J,hA,T,hR,B⟩:=hrel;replace hA:=Lib.hid hA;have c8:=J.Zq.len;by_cases Q:j<n/\j<m
  ·obtain⟨b7,b1⟩:=Q;have d:=qqo (L:=l.take m) (out:=out) (j:=j) (by rw[List.length_take,hl.out];omega);rw[hR,qqp b1] at d;obtain⟨g,o,X,O,W,rfl,I,c0,c1,c2,c3,hs⟩:=hI.cell b7;obtain⟨x,hx⟩:∃x,Qj l j=x:=⟨_,rfl⟩;rw[hx] at c0 c1 c2 hs d;have d4:=hs.len;have c9:=hs.cap;have HX:=Lib.hid (λ(U:World) (b:Below w.1.size w U)=>show U.cell? ⟨g,o+j*4,none⟩=some (.int .i64 x.k.obj)/\U.cell? ⟨g,o+j*4+1,none⟩=some (.int .i64 x.k.kind)/\U.cell? ⟨g,o+j*4+2,none⟩=some (.int .i64 x.k.off)/\U.cell? ⟨g,o+j*4+3,none⟩=some (.slice X O W)/\Sl U X O W x.v from
    ⟨(b.cell (p:=⟨g,_,none⟩) I).trans c0,(b.cell (p:=⟨g,_,none⟩) I).trans c1,(b.cell (p:=⟨g,_,none⟩) I).trans c2,(b.cell (p:=⟨g,_,none⟩) I).trans c3,hs.below b⟩)
   have e0:(0:Int)<=(j:Int):=by omega
   have e1:(j:Int)<(n:Int):=by omega
   have e2:(j:Int)<(m:Int):=by omega
   obtain⟨d0,d1,d2,d3,G⟩:=HX.out wr B;clear c0 c1 c2 c3 hs hx hR
   cases E:x.k.may with
   |true=>
    rw[E] at d;replace d:R=U7 ((l.take m).drop (j+1)) (Zo x.k (x.v.take 28) false out):=d;have M:=q25 (k:=x.k) (v:=x.v.take 28) T;have b0:=q5f (k:=x.k) (v:=x.v.take 28) T;have H1:=λw=>q52 x.k true E w
    clear E;by_cases b5:O<=28
    ·have K:¬((28:Int)<(O:Int)):=by omega
     have b8:x.v.take 28=x.v:=List.take_of_length_le (by omega);rw[b8] at d M b0;have H2:=λ(f:World) (a6:w.1.size<=f.1.size) (Z:Zg F f H q P out) (a2:Sl f X O W x.v)=>qbj F H q P out x.k X O W x.v f Z a2 (by omega) (by omega) (HF.out f a6)
     go_wp2_with fail
     refine (H1 wr).mono ?_;rintro e f ⟨rfl,D⟩;have z2:=D.size;have u:=B.trans (D.mono B.size);obtain⟨d0,d1,d2,d3,G⟩:=HX.out f u;have Y:=J.below D;go_wp2_with fail
     refine (H2 f u.size Y G).mono ?_;rintro e w3 ⟨A3,n3,c3,rfl,J3,y,b3⟩;have B3:=u.trans (b3.mono u.size);have b6:=J3.Zq.len;replace y:=Lib.hid (λg I=>Nat.le_trans u.size (y g I));go_wp2;exact⟨⟨j+1,n3,_,_,_,by omega,by omega,by omega,by go_num,rfl,J3,y.out,M,d.symm,B3⟩,by simp[intOf];omega⟩
    ·have K:(28:Int)<(O:Int):=by omega
     have a7:(28:Int)<=(W:Int):=by omega
     have H2:=λ(f:World) (a6:w.1.size<=f.1.size) (Z:Zg F f H q P out) (a2:Sl f X 28 W (x.v.take 28))=>qbj F H q P out x.k X 28 W (x.v.take 28) f Z a2 (by omega) (by omega) (HF.out f a6)
     go_wp2_with fail
     refine (H1 wr).mono ?_;rintro e f ⟨rfl,D⟩;have z2:=D.size;have u:=B.trans (D.mono B.size);obtain⟨d0,d1,d2,d3,G⟩:=HX.out f u;have b4:=G.take (show 28<=O by omega);have Y:=J.below D;go_wp2_with fail
     refine (H2 f u.size Y b4).mono ?_;rintro e w3 ⟨A3,n3,c3,rfl,J3,y,b3⟩;have B3:=u.trans (b3.mono u.size);have b6:=J3.Zq.len;replace y:=Lib.hid (λg I=>Nat.le_trans u.size (y g I));go_wp2;exact⟨⟨j+1,n3,_,_,_,by omega,by omega,by omega,by go_num,rfl,J3,y.out,M,d.symm,B3⟩,by simp[intOf];omega⟩
   |false=>
    rw[E] at d;replace d:R=U7 ((l.take m).drop (j+1)) out:=d;have H1:=λw=>q52 x.k false E w
    clear E;by_cases b5:O<=28
    ·have K:¬((28:Int)<(O:Int)):=by omega
     go_wp2_with fail
     refine (H1 wr).mono ?_;rintro e f ⟨rfl,D⟩;have u:=B.trans (D.mono B.size);obtain⟨d0,d1,d2,d3,G⟩:=HX.out f u;have Y:=J.below D;go_wp2;exact⟨⟨j+1,q,_,_,_,by omega,by omega,by omega,by go_num,rfl,Y,hA.out,T,d.symm,u⟩,by simp[intOf];omega⟩
    ·have K:(28:Int)<(O:Int):=by omega
     have a7:(28:Int)<=(W:Int):=by omega
     go_wp2_with fail
     refine (H1 wr).mono ?_;rintro e f ⟨rfl,D⟩;have u:=B.trans (D.mono B.size);obtain⟨d0,d1,d2,d3,G⟩:=HX.out f u;have Y:=J.below D;go_wp2;exact⟨⟨j+1,q,_,_,_,by omega,by omega,by omega,by go_num,rfl,Y,hA.out,T,d.symm,u⟩,by simp[intOf];omega⟩
  ·have a8:out=R:=by
    rw[<-hR,List.drop_of_length_le (by rw[List.length_take,hl.out];omega)];rfl
   subst a8;clear hR;by_cases h1:(j:Int)<(n:Int)
   ·have h3:¬(j:Int)<(m:Int):=λh=>Q ⟨by omega,by omega⟩
    clear Q;go_wp2;go_ret;exact⟨_,_,_,rfl,J,hA.out,B⟩
   ·clear Q;go_wp2;go_ret;exact⟨_,_,_,rfl,J,hA.out,B⟩
