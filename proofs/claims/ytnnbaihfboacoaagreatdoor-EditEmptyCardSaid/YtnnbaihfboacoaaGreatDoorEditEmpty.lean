/- EditEmpty's walk. -/
import Derived.Test.YtnnbaihfboacoaaGreatDoorGdCv1
import Derived.Test.YtnnbaihfboacoaaGreatDoorHcDv2
import Derived.Test.YtnnbaihfboacoaaGreatDoorHcEv1
import Derived.Test.YtnnbaihfboacoaaGreatDoorEt42
namespace Go.Proofs.YtnnbaihfboacoaaGreatDoor
open Go Go.RowKit Go.Proofs
set_option maxHeartbeats 16000000
set_option maxRecDepth 100000
theorem editEmpty_walk (A:Option Addr)(n c:Nat)(l0:List Qc)(B:Option Addr)(m k:Nat)(zs:List Int)(w:World)(hI:Zl w A n c l0)(hC:Ints w B m k zs)(ht:Tab w) :
  Calls Tryz.prog 9 #[.slice A n c,.slice B m k] w λe w'=>e=.returned (.bool true)/\Below w.1.size w w':=by
 have hG:=ht.1;go_enter Tryz.func9,Tryz.ntmps9
 go_wp2_with fail
 refine (q83 w ht).mono ?_;rintro e w1 ⟨rfl,b1⟩;have t1:=ht.below b1 hG;have hM:=Lib.hid (q9a 512 ⟨by omega,by omega⟩ w1 t1);have J:=qep 512;have e4:(Pl.fresh 512).C.first=12:=by unfold Ct.first;rw[J];rfl
 have e6:(Pl.fresh 512).C.kept=0:=q6z 512;obtain⟨P0,hP⟩:∃P,Pl.fresh 512=P:=⟨_,rfl⟩;rw[hP] at hM J e4 e6;clear hP;go_wp2_with fail
 refine hM.out.mono ?_;rintro e w2 ⟨p,d,U,D,rfl,E2,b2,hU⟩;have d7:=b1.trans (b2.mono b1.size);have hb:1<w1.1.size:=t1.1;have l9:∀k,U k->k<w2.1.size:=λk H=>(E2.low k H).2
 clear hM;go_wp2_with fail
 refine (qgw A n c l0 60 w2 (hI.below d7) (by omega)).mono ?_;rintro e w3 ⟨A3,n3,c3,rfl,I3,i2,b3⟩;have b:=qlb l0 60;obtain⟨l,hl⟩:∃l,U7 (l0.take 60) []=l:=⟨_,rfl⟩;rw[hl] at I3 b;clear hl;have S3:J8 U w3 A3 n3 c3 l:=qkr l9 I3 i2;have E3:=E2.below b3;have i0:=d7.trans (b3.mono d7.size);have n8:=b2.size;have z3:=b3.size;have d4:=Lib.hid (qh1 hC);have l3:=Lib.hid hC.len;have l2:=Lib.hid hC.2;have e7:=Lib.hid S3.len;have i8:=Lib.hid b.len;have e9:=q51 b.Qd;have i5:=qks b;have d9:Zb (P0.store D) 0 []:=.inl ⟨rfl,rfl⟩;obtain⟨fr,e5⟩:∃f,P0.C.free=f:=⟨_,rfl⟩;have HF:=Lib.hid (E3.free fr e5);have a6:P0.C.used=0:=Nat.le_zero.1 (E3.Vd (root:=0) d9).2;have Hq:=Lib.hid (And.intro e5 a6);clear I3 i2 E2 hC e5 a6;go_wp2_with fail
 refine HF.out.mono ?_;rintro e w4 ⟨rfl,rfl⟩;clear HF;go_wp2_with fail
 go_loopw [9,10,11,12] (λrv iv _ _ wr=>∃(i:Nat) (root:Int) (P:Pl),i<=n3/\iv=.int .i64 (i:Int)/\rv=.int .i64 root/\Ed w1.1.size wr d p U D P (Jr root++[]) 100 2/\Zb (P.store D) root ((l.map pl).take i)/\P0.like P/\P.C.n=512/\J8 U wr A3 n3 c3 l/\Below w.1.size w wr/\w2.1.size<=wr.1.size) (λ_ iv _ _ _=>n3-(intOf iv).toNat)
 case atStart=>exact⟨0,0,P0,Nat.zero_le _,rfl,rfl,E3,d9,.refl _,J,S3,i0,z3⟩
 case round=>
  clear E3 d9 S3 i0;obtain⟨i,root,P,n5,rfl,rfl,Er,Y,lk,hn,S,Br,zr⟩:=hrel;by_cases j0:i<n3
  ·as_aux_lemma=>
   obtain⟨x,hx⟩:∃x,Qj l i=x:=⟨_,rfl⟩;have R:i<l.length:=by rw[e7.out];exact j0
   obtain⟨g,o,V,vp,vq,rfl,hg,j7,c0,c1,c2,c3,hs,j9⟩:=S.cell j0;rw[hx] at c0 c1 c2 hs j9;have c8:x∈l:=by rw[<-hx];exact List.mem_of_getElem? (q11 R)
   have m5:=qaz (b.may x c8);have b9:=qkt e9 (j:=i) (by rw[List.length_map];exact R);rw[qws R,hx] at b9;have u:=(Er.nil.Vd Y).1;rw[qaw (hn.trans J.symm),e4,q4z lk (hn.trans J.symm),e6,hn] at u;have c7:((l.map pl).take i).length=i:=by rw[List.length_take,List.length_map];omega
   rw[c7] at u;have i6:i<60:=by have:=i8.out;omega
   have n7:vp<=28:=by have:=(b.may x c8).2;have:=hs.len;omega
   have hF:∀w',Turn U wr w'->w'.cell? ⟨g,o+i*4,none⟩=some (.int .i64 x.k.obj)/\w'.cell? ⟨g,o+i*4+1,none⟩=some (.int .i64 x.k.kind)/\w'.cell? ⟨g,o+i*4+2,none⟩=some (.int .i64 x.k.off)/\w'.cell? ⟨g,o+i*4+3,none⟩=some (.slice V vp vq):=λw' t=>
    have H:=t.block g hg j7;⟨(World.cell?_of_block (a:=⟨g,_,none⟩) H).trans c0,(World.cell?_of_block (a:=⟨g,_,none⟩) H).trans c1,(World.cell?_of_block (a:=⟨g,_,none⟩) H).trans c2,(World.cell?_of_block (a:=⟨g,_,none⟩) H).trans c3⟩
   have bD:Below wr.1.size wr wr.drew:=(Below.refl _ _).drew;have e0:(0:Int)<=(i:Int):=by omega
   have e1:(i:Int)<(n3:Int):=by omega
   have i3:=S.Zq.bounds;obtain⟨e3,M⟩:=i3;unfold maxLen at M;have g8:=Lib.hid (q4i x.v V vp vq wr.drew (hs.below bD) (by omega));have d0:=Lib.hid (λ(w5:World) (bb:Below wr.1.size wr w5) (A5:Option Addr) (c5:Nat) (s5:Sl w5 A5 vp c5 (Zd x.v)) (h5:∀g,q01 A5=some g->¬U g)=>(Er.below bb).Ey (root:=root) (H0:=[]) hb Y (e9.sublist (List.take_sublist _ _)) (λy hy=>i5 y (List.mem_of_mem_take hy)) x.k (Zd x.v) m5 (by rw[c7];omega) (by simp) A5 vp c5 s5 (λ_=>h5) (by omega) _ b9);have i9:=Er.low;replace b9:=Lib.hid b9;replace u:=Lib.hid u;replace c7:=Lib.hid c7;replace hx:=Lib.hid hx;have W:=Lib.hid lk;replace hn:=Lib.hid hn;clear lk;go_wp2_with fail
   go_region_held3 (λw'=>w'.cell? ⟨g,o+i*4,none⟩=some (.int .i64 x.k.obj)/\w'.cell? ⟨g,o+i*4+1,none⟩=some (.int .i64 x.k.kind)/\w'.cell? ⟨g,o+i*4+2,none⟩=some (.int .i64 x.k.off)/\w'.cell? ⟨g,o+i*4+3,none⟩=some (.slice V vp vq))
    (first|(with_reducible assumption)|(with_reducible exact hF _ (Qv bD))|(with_reducible exact hF _ (Qv b6))|(with_reducible exact hF _ X6))
    (first
     |(have hh:=b6;go_at_call 30;refine (d0.out _ b6 _ _ O5.sl k9).mono ?_;rintro e E ⟨r,P6,rfl,X⟩;have X6:Turn U wr E:=(Qv b6).trans X.turn (λ_ h=>.inl h))
     |(go_at_call 29;refine g8.out.mono ?_;rintro e w5 ⟨A5,c5,rfl,O5,b5⟩;have b6:Below wr.1.size wr w5:=bD.trans b5;have k9:=q70 O5 (λk H=>(i9 k H).2))
     |fail)
   have b4:Below w.1.size w E:=Br.trans (X6.below (λk H=>Nat.le_trans b1.size (hU k H)) Br.size);have S6:=S.turned X6;have f9:w2.1.size<=E.1.size:=Nat.le_trans zr X6.size;clear c0 c1 c2 c3 hs j9 g8 d0;go_wp2_with fail
   exact⟨⟨i+1,r,P6,by omega,by go_num,rfl,X.ed,X.tree,W.out.trans X.like,X.n.trans hn.out,S6,b4,f9⟩,by simp[intOf];omega⟩
  ·have m0:i=n3:=by omega
   have k0:(l.map pl).take i=l.map pl:=by rw[List.take_of_length_le];rw[List.length_map,e7.out];omega
   rw[k0] at Y;subst m0;have W:=Lib.hid lk;replace hn:=Lib.hid hn;have Z:=b.Qd;have i6:i<=60:=by have:=e7.out;have:=i8.out;omega
   clear lk k0 e9 i5;go_wp2_with fail
   go_loopw [7,9,13,14,15,16] (λsv rv iv _ _ _ wr=>∃(j q:Nat) (A':Option Addr) (c':Nat) (G:List Qc) (root:Int) (P:Pl),q+j<=i/\sv=.slice A' q c'/\iv=.int .i64 (j:Int)/\rv=.int .i64 root/\Ed w1.1.size wr d p U D P (Jr root++[]) 100 2/\Zb (P.store D) root (G.map pl)/\P0.like P/\P.C.n=512/\J8 U wr A' q c' G/\Qd G/\(∀x∈G,x∈l)/\Below w.1.size w wr/\w2.1.size<=wr.1.size) (λ_ _ iv _ _ _ _=>i-(intOf iv).toNat)
   case atStart=>exact⟨0,i,A3,_,l,root,P,by omega,rfl,rfl,rfl,Er,Y,W.out,hn.out,S,Z,λx hx=>hx,Br,zr⟩
   case round=>
    clear Er Y W hn S Z Br zr;obtain⟨j,q,A',c',G,root,P,c6,rfl,rfl,rfl,Er,Y,lk,hn,S,Z,d3,Br,zr⟩:=hrel;have K:=Lib.hid S.len;by_cases m3:q=0
    ·as_aux_lemma=>
     subst m3;have m1:G=[]:=List.eq_nil_of_length_eq_zero K.out;subst m1;have f0:root=0:=by
      rcases Y with⟨_,h⟩|⟨lv,_,hh,h1,_⟩
      ·exact h
      ·obtain⟨x,r,h⟩:=q39 hh
       cases h
     have hu:=Nat.le_zero.1 (Er.nil.Vd Y).2;have i4:=(qrs (hn.trans J.symm) lk.2 Hq.out.2 hu).trans Hq.out.1;have k4:=Lib.hid (Er.free fr i4);subst f0;clear Y lk i4 hu K;go_wp2_with fail
     refine k4.out.mono ?_;rintro e w9 ⟨rfl,rfl⟩;go_wp2_with fail
     go_ret;exact⟨rfl,Br⟩
    ·have e0:(0:Int)<(q:Int):=by omega
     have e8:0<q:=by omega
     go_upto_if 63 with fail
     go_cut [14] from 60 to 70 (λav wx=>wr=wx/\∃t:Nat,t<q/\av=.int .i64 (t:Int))
     case first=>
      as_aux_lemma=>
      by_cases i7:j<m
      ·obtain⟨g,o,rfl,hg,c0⟩:=Rt.cell (Jf.below d4.out Br) i7;obtain⟨z,hz⟩:∃z,zs.getD j 0=z:=⟨_,rfl⟩;rw[hz] at c0;have m7:-9223372036854775808<=z/\z<=9223372036854775807:=by
        refine l2.out z ?_;rw[<-hz,List.getD_eq_getElem?_getD,List.getElem?_eq_getElem (by rw[l3.out];exact i7)];exact List.getElem_mem _
       have Hk:=Lib.hid (q5x z q m7 e8 (by omega) wr);have e1:(j:Int)<(m:Int):=by omega
       have e2:(0:Int)<=(j:Int):=by omega
       have n6:=(Jf.below d4.out Br).cap;have m2:=(Jf.below d4.out Br).max;unfold maxLen at m2;clear hz Y lk K;go_wp2_with fail
       refine Hk.out.mono ?_;rintro e w5 ⟨rfl,rfl⟩;clear c0;go_wp2_with fail
       go_meet
       exact⟨rfl,md z q,quq z e8,rfl⟩
      ·have e1:¬(j:Int)<(m:Int):=by omega
       clear Y lk K;go_wp2_with fail
       go_meet
       exact⟨rfl,0,e8,rfl⟩
     case rest=>
      as_aux_lemma=>
      obtain⟨rfl,t,k1,rfl⟩:=hcut;obtain⟨x,hx⟩:∃x,Qj G t=x:=⟨_,rfl⟩;have R:t<G.length:=by rw[K.out];exact k1
      obtain⟨g,o,V,vp,vq,rfl,hg,j7,c0,c1,c2,-,-,-⟩:=S.cell k1;have O:=qyh (q51 Z) (j:=t) (by rw[List.length_map];exact R);rw[qws R,<-List.map_take,<-List.map_drop,<-List.map_append] at O;rw[hx] at c0 c1 c2 O;have O:Jv x.k (G.map pl)=(G.take t++G.drop (t+1)).map pl:=O;have c8:x∈G:=by rw[<-hx];exact List.mem_of_getElem? (q11 R)
      have u:=(Er.nil.Vd Y).1;rw[qaw (hn.trans J.symm),e4,q4z lk (hn.trans J.symm),e6,hn,List.length_map] at u;have n1:G.length<=60:=by rw[K.out];omega
      have HD:=Lib.hid (Er.Ti (root:=root) (H0:=[]) hb Y (q51 Z) (λy hy=>by obtain⟨y0,m6,rfl⟩:=List.mem_map.1 hy;exact qaz (b.may y0 (d3 y0 m6))) x.k (by rw[List.length_map];omega) (by simp) ⟨pl x,List.mem_map_of_mem c8,(Kd.same_iff _ _).2 ⟨rfl,rfl,rfl⟩⟩ (by omega) _ O);have e1:(t:Int)<(q:Int):=by omega
      have e2:(0:Int)<=(t:Int):=by omega
      obtain⟨e3,M⟩:=S.Zq.bounds;unfold maxLen at M;have W:=Lib.hid lk;replace hn:=Lib.hid hn;replace hx:=Lib.hid hx;replace O:=Lib.hid O;replace u:=Lib.hid u;clear lk;go_wp2_with fail
      refine HD.out.mono ?_;rintro e E ⟨r,P6,rfl,X⟩;have X6:=X.turn;have m4:=q50 X;have l6:=S.turned X6;have b4:Below w.1.size w E:=Br.trans (X6.below (λk H=>Nat.le_trans b1.size (hU k H)) Br.size);have f9:w2.1.size<=E.1.size:=Nat.le_trans zr X6.size;clear c0 c1 c2 HD;obtain⟨d1,d2⟩:=m4;have a7:(G.take t++G.drop (t+1)).length+1=q:=by rw[List.length_append,List.length_take,List.length_drop,K.out];omega
      have a8:=qgy Z t;have T:∀y∈G.take t++G.drop (t+1),y∈l:=λy hy=>d3 y ((List.mem_append.1 hy).elim List.mem_of_mem_take List.mem_of_mem_drop)
      have l7:=X.tree;have j8:r=0↔q=1:=by
       constructor
       ·intro h;have:=congrArg List.length (d1 h);rw[List.length_map,List.length_nil] at this;omega
       ·intro h;refine d2 (List.eq_nil_of_length_eq_zero ?_);rw[List.length_map];omega
      obtain⟨bb,b8⟩:∃bb,decide (q=1)=bb:=⟨_,rfl⟩;have g1:decide ((q:Int)=1)=bb:=by rw[<-b8];exact decide_eq_decide.2 ⟨λh=>by omega,λh=>by omega⟩
      have I:decide (r=0)=bb:=by rw[<-b8];exact decide_eq_decide.2 j8
      have g3:(r==0)=bb:=by rw[<-I];rfl
      have g4:((q:Int)==1)=bb:=by rw[<-g1];rfl
      have g5:(q==1)=bb:=by rw[<-b8];rfl
      have g6:(bb != bb)=false:=by simp
      have bD:Below E.1.size E E.drew:=(Below.refl _ _).drew;obtain⟨F',b7⟩:∃F:Option Addr->List UInt8->Prop,F=λV v=>FU U V v/\(v≠[]->∀g,q01 V=some g->g<E.1.size):=⟨_,rfl⟩
      have I6:Zg F' E (some ⟨g,o,none⟩) q c' G:=q3s l6.row λV p q v hs hf=>by rw[b7];exact⟨hf,λhv=>hs.Qa hv⟩
      have d8:∀V v,F' V v->v≠[]->∀g,q01 V=some g->g<E.1.size:=λV v h=>by rw[b7] at h;exact h.2
      have l5:∀V v,F' V v->FU U V v:=λV v h=>by rw[b7] at h;exact h.1
      have J0:Je F' (E.drew.alloc (.cells #[] 68)) E.1.size (some ⟨E.1.size,0,none⟩) 0 0 []:=q26 E.drew;have bA:Below E.1.size E (E.drew.alloc (.cells #[] 68)):=bD.alloc bD.size _;have d5:Zg F' E (some ⟨g,o,none⟩) t c' (G.take t):=by
       have h:=I6.sub (i:=0) (j:=t) (Nat.zero_le _) (by omega) (by omega);rw[if_neg (by omega),Nat.sub_zero,Nat.sub_zero,List.drop_zero] at h;exact h
      have d6:Zg F' E (if c'=t+1 then some ⟨g,o,none⟩ else some ⟨g,o+(t+1)*4,none⟩) (q-(t+1)) (c'-(t+1)) (G.drop (t+1)):=by
       have h:=I6.sub (i:=t+1) (j:=q) (by omega) (Nat.le_refl _) (by omega);rw[List.take_of_length_le (by rw[List.length_drop,K.out];exact Nat.le_refl _)] at h;exact h
      have l4:∀k,q01 (if c'=t+1 then some (⟨g,o,none⟩:Addr) else some ⟨g,o+(t+1)*4,none⟩)=some k->¬E.1.size<=k:=λk H h=>by
       have h2:g=k:=by
        split at H
        ·exact Option.some.inj H
        ·exact Option.some.inj H
       have:=X6.size;omega
      clear b7 d1 d2 j8 b8;have f1:(t:Int)<=(c':Int):=by omega
      have f2:IntKind.i64.wrap ((t:Int)+1)=(t:Int)+1:=IntWalk.i64_in _ (by omega);have f3:(t:Int)+1<=(q:Int):=by omega
      have f4:(q:Int)<=(c':Int):=by omega
      have f5:(0:Int)<=(t:Int)+1:=by omega
      have f6:((t:Int)+1).toNat=t+1:=by omega
      have bG:g<E.1.size:=by have:=X6.size;omega
      have f7:(0:Int)<=(q:Int):=by omega
      replace a7:=Lib.hid a7;replace d5:=Lib.hid d5;replace d6:=Lib.hid d6;have n2:q<=60:=by omega
      replace c6:=Lib.hid c6;replace a8:=Lib.hid a8;replace T:=Lib.hid T;go_wp2_with fail
      go_region_law (first
       |(have hh:=a2;rw[if_pos (by rfl)];refine q1f (.tmp 97) (.tmp 101) (by rfl) E.1.size A9 t c9 _ (by rfl) J9 _ (q-(t+1)) (c'-(t+1)) _ (by rfl) (d6.out.turned k8 l4 (λV v hv b0 I Q h=>by have:=d8 V v hv b0 I Q;omega)) (λV v hv b0 I Q h=>l1 I (d8 V v hv b0 I Q) h) (by omega) a2.size ?_;intro g0 i1 k2 g9 k7 n0;have a1:Below E.1.size E k2:=a2.trans (k7.below (λk H=>(J9.Qa k H).1) a2.size))
       |(rw[if_pos (by rfl)];refine q1f (.tmp 93) (.tmp 96) (by rfl) E.1.size (some ⟨E.1.size,0,none⟩) 0 0 [] (by rfl) J0 _ t c' _ (by rfl) (d5.out.below bA) (λV v hv b0 I Q h=>by have h1:=d8 V v hv b0 I Q;have h2:E.1.size=I:=Option.some.inj h;omega) (by omega) bA.size ?_;intro A9 c9 w9 J9 T9 n4;rw[Nat.zero_add,List.nil_append] at J9;have a2:Below E.1.size E w9:=bA.trans (T9.below (λk H=>Nat.le_of_eq (Option.some.inj H)) bA.size);have k8:Turn (λk=>E.1.size<=k) E w9:=Qv a2;have l1:∀I,I<E.1.size->q01 A9≠some I:=λI h1 h2=>by { have:=(J9.Qa I h2).1;omega }))
      have k6:J8 U k2 g0 (t+(q-(t+1))) i1 (G.take t++G.drop (t+1)):=
       ⟨g9.Gn.mono l5,λ_ I Q l8=>by have h1:=(g9.Qa I Q).1;have h2:=(X.ed.low I l8).2;omega⟩
      have g7:=b4.trans (a1.mono b4.size);have k3:=X.ed.below a1;have k5:=W.out.trans X.like;have m8:=X.n.trans hn.out;have m9:=Nat.le_trans f9 a1.size;have c6:=c6.out;have y9:(j:Int)<=60:=by omega
      have y8:IntKind.i64.wrap ((j:Int)+1)=(j:Int)+1:=IntWalk.i64_in _ (by omega);go_wp2_with fail
      have y1:(t+(q-(t+1)))+(j+1)<=i:=by omega
      have y2:i-(j+1)<i-j:=by omega
      exact⟨⟨j+1,t+(q-(t+1)),g0,i1,_,r,P6,y1,rfl,by go_num,rfl,k3,l7,k5,m8,k6,a8.out,T.out,g7,m9⟩,by simp[intOf];omega⟩
