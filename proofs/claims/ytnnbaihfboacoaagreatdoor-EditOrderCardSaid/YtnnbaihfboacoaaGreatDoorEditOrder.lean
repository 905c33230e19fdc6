/- EditOrder's walk. -/
import Derived.Test.YtnnbaihfboacoaaGreatDoorHbAv2
import Derived.Test.YtnnbaihfboacoaaGreatDoorEt42
import Derived.Test.YtnnbaihfboacoaaGreatDoorHcF
namespace Go.Proofs.YtnnbaihfboacoaaGreatDoor
open Go Go.RowKit Go.Proofs
set_option maxHeartbeats 16000000
set_option maxRecDepth 100000
theorem editOrder_walk (A:Option Addr)(n c:Nat)(l0:List Qc)(B:Option Addr)(m k:Nat)(zs:List Int)(w:World)(hI:Zl w A n c l0)(hC:Ints w B m k zs)(ht:Tab w) :
  Calls Tryz.prog 8 #[.slice A n c,.slice B m k] w λe H=>e=.returned (.bool true)/\Below w.1.size w H:=by
 have hG:=ht.1;go_enter Tryz.func8,Tryz.ntmps8
 go_wp2_with fail
 refine (q83 w ht).mono ?_;rintro e w1 ⟨rfl,b1⟩;have t1:=ht.below b1 hG;have hM:=Lib.hid (q9a 512 ⟨by omega,by omega⟩ w1 t1);have a7:=qep 512;have i7:(Pl.fresh 512).C.first=12:=by unfold Ct.first;rw[a7];rfl
 have i9:(Pl.fresh 512).C.kept=0:=q6z 512;obtain⟨P0,hP⟩:∃P,Pl.fresh 512=P:=⟨_,rfl⟩;rw[hP] at hM a7 i7 i9;clear hP;go_wp2_with fail
 refine hM.out.mono ?_;rintro e w2 ⟨p,d,U,D,rfl,E2,b2,hU⟩;have i0:=b1.trans (b2.mono b1.size);have hb:1<w1.1.size:=t1.1;have o2:∀k,U k->k<w2.1.size:=λk E=>(E2.low k E).2
 clear hM;go_wp2_with fail
 refine (qgw A n c l0 60 w2 (hI.below i0) (by omega)).mono ?_;rintro e w3 ⟨A3,n3,c3,rfl,I3,l1,b3⟩;have b:=qlb l0 60;obtain⟨l,hl⟩:∃l,U7 (l0.take 60) []=l:=⟨_,rfl⟩;rw[hl] at I3 b;clear hl;have S3:J8 U w3 A3 n3 c3 l:=qkr o2 I3 l1;have E3:=E2.below b3;have k8:=i0.trans (b3.mono i0.size);have p5:=b2.size;have z3:=b3.size;have g7:=Lib.hid (qh1 hC);have n8:=Lib.hid hC.len;have n7:=Lib.hid hC.2;have e4:=Lib.hid S3.len;have g3:=Lib.hid b.len;have j8:=q51 b.Qd;have d9:=qks b;have l3:Zb (P0.store D) 0 []:=.inl ⟨rfl,rfl⟩;clear I3 l1 E2 hC;go_wp2_with fail
 go_loopw [8,9,10,11] (λrv iv _ _ wr=>∃(i:Nat) (root:Int) (P:Pl),i<=n3/\iv=.int .i64 (i:Int)/\rv=.int .i64 root/\Ed w1.1.size wr d p U D P (Jr root++[]) 100 2/\Zb (P.store D) root ((l.map pl).take i)/\P0.like P/\P.C.n=512/\J8 U wr A3 n3 c3 l/\Below w.1.size w wr/\w2.1.size<=wr.1.size) (λ_ iv _ _ _=>n3-(intOf iv).toNat)
 case atStart=>exact⟨0,0,P0,Nat.zero_le _,rfl,rfl,E3,l3,.refl _,a7,S3,k8,z3⟩
 case round=>
  clear E3 l3 S3 k8;obtain⟨i,root,P,p3,rfl,rfl,Er,hT,lk,hn,S,Br,zr⟩:=hrel;by_cases m0:i<n3
  ·as_aux_lemma=>
   obtain⟨x,hx⟩:∃x,Qj l i=x:=⟨_,rfl⟩;have d3:i<l.length:=by rw[e4.out];exact m0
   obtain⟨g,o,V,vp,vq,rfl,hg,j0,c0,c1,c2,c3,hs,e8⟩:=S.cell m0;rw[hx] at c0 c1 c2 hs e8;have f0:x∈l:=by rw[<-hx];exact List.mem_of_getElem? (q11 d3)
   have j9:=qaz (b.may x f0);have g4:=qkt j8 (j:=i) (by rw[List.length_map];exact d3);rw[qws d3,hx] at g4;have u:=(Er.nil.Vd hT).1;rw[qaw (hn.trans a7.symm),i7,q4z lk (hn.trans a7.symm),i9,hn] at u;have g6:((l.map pl).take i).length=i:=by rw[List.length_take,List.length_map];omega
   rw[g6] at u;have l8:i<60:=by have:=g3.out;omega
   have o6:vp<=28:=by have:=(b.may x f0).2;have:=hs.len;omega
   have hF:∀H,Turn U wr H->H.cell? ⟨g,o+i*4,none⟩=some (.int .i64 x.k.obj)/\H.cell? ⟨g,o+i*4+1,none⟩=some (.int .i64 x.k.kind)/\H.cell? ⟨g,o+i*4+2,none⟩=some (.int .i64 x.k.off)/\H.cell? ⟨g,o+i*4+3,none⟩=some (.slice V vp vq):=λH t=>
    have E:=t.block g hg j0;⟨(World.cell?_of_block (a:=⟨g,_,none⟩) E).trans c0,(World.cell?_of_block (a:=⟨g,_,none⟩) E).trans c1,(World.cell?_of_block (a:=⟨g,_,none⟩) E).trans c2,(World.cell?_of_block (a:=⟨g,_,none⟩) E).trans c3⟩
   have bD:Below wr.1.size wr wr.drew:=(Below.refl _ _).drew;have e0:(0:Int)<=(i:Int):=by omega
   have e1:(i:Int)<(n3:Int):=by omega
   have l6:=S.Zq.bounds;obtain⟨i5,a6⟩:=l6;unfold maxLen at a6;have d7:=Lib.hid (q4i x.v V vp vq wr.drew (hs.below bD) (by omega));have a1:=Lib.hid (λ(w5:World) (bb:Below wr.1.size wr w5) (A5:Option Addr) (c5:Nat) (s5:Sl w5 A5 vp c5 (Zd x.v)) (h5:∀g,q01 A5=some g->¬U g)=>(Er.below bb).Ey (root:=root) (H0:=[]) hb hT (j8.sublist (List.take_sublist _ _)) (λy hy=>d9 y (List.mem_of_mem_take hy)) x.k (Zd x.v) j9 (by rw[g6];omega) (by simp) A5 vp c5 s5 (λ_=>h5) (by omega) _ g4);have R:=Er.low;replace g4:=Lib.hid g4;replace u:=Lib.hid u;replace g6:=Lib.hid g6;replace hx:=Lib.hid hx;have b9:=Lib.hid lk;replace hn:=Lib.hid hn;clear lk;go_wp2_with fail
   go_region_held3 (λH=>H.cell? ⟨g,o+i*4,none⟩=some (.int .i64 x.k.obj)/\H.cell? ⟨g,o+i*4+1,none⟩=some (.int .i64 x.k.kind)/\H.cell? ⟨g,o+i*4+2,none⟩=some (.int .i64 x.k.off)/\H.cell? ⟨g,o+i*4+3,none⟩=some (.slice V vp vq))
    (first|(with_reducible assumption)|(with_reducible exact hF _ (Qv bD))|(with_reducible exact hF _ (Qv W))|(with_reducible exact hF _ X6))
    (first
     |(have hh:=W;go_at_call 30;refine (a1.out _ W _ _ O5.sl i3).mono ?_;rintro e f ⟨r,P6,rfl,N6⟩;have X6:Turn U wr f:=(Qv W).trans N6.turn (λ_ h=>.inl h))
     |(go_at_call 29;refine d7.out.mono ?_;rintro e w5 ⟨A5,c5,rfl,O5,b5⟩;have W:Below wr.1.size wr w5:=bD.trans b5;have i3:=q70 O5 (λk E=>(R k E).2))
     |fail)
   have g0:Below w.1.size w f:=Br.trans (X6.below (λk E=>Nat.le_trans b1.size (hU k E)) Br.size);have S6:=S.turned X6;have k1:w2.1.size<=f.1.size:=Nat.le_trans zr X6.size;clear c0 c1 c2 c3 hs e8 d7 a1;go_wp2_with fail
   exact⟨⟨i+1,r,P6,by omega,by go_num,rfl,N6.ed,N6.tree,b9.out.trans N6.like,N6.n.trans hn.out,S6,g0,k1⟩,by simp[intOf];omega⟩
  ·have o3:i=n3:=by omega
   have m2:(l.map pl).take i=l.map pl:=by rw[List.take_of_length_le];rw[List.length_map,e4.out];omega
   rw[m2] at hT;subst o3;have b9:=Lib.hid lk;replace hn:=Lib.hid hn;have d6:=b.Qd;have l8:i<=60:=by have:=e4.out;have:=g3.out;omega
   obtain⟨one,m1⟩:∃o,root=o:=⟨_,rfl⟩;subst m1;have E4:Ed w1.1.size wr d p U D P (Jr 0++Jr root) 100 2:=Er.nil;have bA:Below wr.1.size wr (wr.alloc (.cells #[] 68)):=Qm;have R:=Er.low;obtain⟨F',X⟩:∃F:Option Addr->List UInt8->Prop,F=λV v=>FU U V v/\(v≠[]->∀g,q01 V=some g->g<wr.1.size):=⟨_,rfl⟩
   have I6:Zg F' wr A3 i c3 l:=q3s S.row λV p q v hs hf=>by rw[X];exact⟨hf,λhv=>hs.Qa hv⟩
   have c8:∀V v,F' V v->v≠[]->∀g,q01 V=some g->g<wr.1.size:=λV v h=>by rw[X] at h;exact h.2
   have g1:∀V v,F' V v->FU U V v:=λV v h=>by rw[X] at h;exact h.1
   have J0:Je F' (wr.alloc (.cells #[] 68)) wr.1.size (some ⟨wr.1.size,0,none⟩) 0 0 []:=q26 wr;clear lk m2 X;go_wp2_with (first
    |(at_builtin;refine q8x rfl (.tmp 60) (.tmp 61) rfl wr.1.size (some ⟨wr.1.size,0,none⟩) 0 0 [] rfl J0 A3 i c3 _ rfl (I6.below bA) (λV v hv b8 M I h=>by have h1:=c8 V v hv b8 M I;have h2:wr.1.size=M:=Option.some.inj h;omega) (by omega) bA.size ?_;intro A9 c9 w9 J9 T9 l2;rw[Nat.zero_add,List.nil_append] at J9;have K:Below wr.1.size wr w9:=bA.trans (T9.below (λk E=>Nat.le_of_eq (Option.some.inj E)) bA.size))
    |fail)
   have S9:J8 U w9 A9 i c9 l:=⟨J9.Gn.mono g1,λ_ M I i4=>by have h1:=(J9.Qa M I).1;have h2:=(R M i4).2;omega⟩;have E9:=E4.below K;have k4:=Br.trans (K.mono Br.size);have m5:=Nat.le_trans zr K.size;clear I6 c8 g1 J0 J9 bA T9 l2 E4 Er S R;go_wp2_with fail
   go_loopw [12,13,14,15,16,17] (λrv sv iv _ _ _ wr=>∃(j q:Nat) (A':Option Addr) (c':Nat) (l' its:List Qc) (f9:Int) (P:Pl),q+j<=i/\sv=.slice A' q c'/\iv=.int .i64 (j:Int)/\rv=.int .i64 f9/\Ed w1.1.size wr d p U D P (Jr f9++Jr root) 100 2/\Zb (P.store D) f9 its/\Zb (P.store D) root (l.map pl)/\Qd its/\(∀y∈its,y∈l.map pl)/\its.length+q=i/\(∀y∈its,∀z∈l',y.k.same z.k=false)/\P0.like P/\P.C.n=512/\J8 U wr A' q c' l'/\Qd l'/\(∀x∈l',x∈l)/\Below w.1.size w wr/\w2.1.size<=wr.1.size) (λ_ _ iv _ _ _ _=>i-(intOf iv).toNat)
   case atStart=>exact⟨0,i,A9,c9,l,[],0,P,by omega,rfl,rfl,rfl,E9,.inl ⟨rfl,rfl⟩,hT,List.Pairwise.nil,λy hy=>(by cases hy),by simp,λy hy=>(by cases hy),b9.out,hn.out,S9,d6,λx hx=>hx,k4,m5⟩
   case round=>
    clear E9 hT b9 hn S9 d6 k4 m5 Br zr K;obtain⟨j,q,A',c',l',its,f9,P,g5,rfl,rfl,rfl,Er,hT,a2,G,J,Q,O,lk,hn,S,d6,e9,Br,zr⟩:=hrel;have d5:=Lib.hid S.len;by_cases o5:q=0
    ·as_aux_lemma=>
     subst o5;have l5:its=l.map pl:=qru G (q51 b.Qd) J (by rw[List.length_map,e4.out];omega);subst l5;have l7:Ky (l.map pl) 60:=⟨G,λx hx=>⟨(d9 x hx).1,(d9 x hx).2.1⟩,by rw[List.length_map];exact g3.out⟩;have d4:(l.map pl).length=i:=by rw[List.length_map,e4.out]
     have hw:=qd4 l7 (by omega);have K3:KB (wr.alloc (.cells #[.int .i64 0,.int .i64 0,.int .i64 0] 30)) wr.1.size ⟨0,0,0⟩:=KB.new wr 0 0 0 _;have i1:Below wr.1.size wr (wr.alloc (.cells #[.int .i64 0,.int .i64 0,.int .i64 0] 30)):=Qm;have TR:=Er.told a2 G (by rw[d4];omega);have TW:=Er.told hT G (by rw[d4];omega);have tr:=Er.tab;replace d4:=Lib.hid d4;replace Q:=Lib.hid Q;obtain⟨L,hL⟩:∃L,l.map pl=L:=⟨_,rfl⟩;rw[hL] at TR TW hw d4;clear hT a2 lk d5 G J O d6 e9 hL l7 d9 j8 S;go_wp2_with (first
      |(refine q0x rfl (.tmp 18) (.tmp 109) rfl wr.1.size rfl ⟨2147483647,255,2147483647⟩ _ rfl K3 ?_;intro w4 K4 T4;have c0:=K4.c0;have c1:=K4.c1;have c2:=K4.c2)
      |fail)
     have c7:Below wr.1.size wr w4:=i1.trans (T4.below (λk E=>by have E:k=wr.1.size:=E;omega) i1.size);have t4:=tr.below c7 tr.1;have k5:=Lib.hid ((TR.below c7).scan t4 ⟨0,0,0⟩ ⟨2147483647,255,2147483647⟩ 1000 L hw);refine k5.out.mono ?_;rintro e w5 ⟨A5,n5,c5,rfl,I5,b5⟩;have K5:=K4.below b5 K4.lt;have d0:=K5.c0;have d1:=K5.c1;have d2:=K5.c2;have k6:=Lib.hid ((TW.below (c7.trans (b5.mono c7.size))).scan (t4.below b5 t4.1) ⟨0,0,0⟩ ⟨2147483647,255,2147483647⟩ 1000 L hw);clear c0 c1 c2 k5 K3 i1 T4 K4;go_wp2_with fail
     refine k6.out.mono ?_;rintro e f ⟨A6,n6,c6,rfl,I6,b6⟩;have n1:n6=n5:=I6.len.symm.trans I5.len;subst n1;have n2:n6=i:=I6.len.symm.trans d4.out;subst n2;have B6:=(Br.trans (c7.mono Br.size)).trans ((b5.trans (b6.mono b5.size)).mono (Nat.le_trans Br.size c7.size));clear d0 d1 d2 k6 K5;go_wp2_with fail
     refine (q61 L A5 n6 c5 A6 c6 f (I5.below b6) I6).mono ?_;rintro e w7 ⟨rfl,b7⟩;go_wp2_with fail
     go_ret;exact⟨rfl,B6.trans (b7.mono B6.size)⟩
    ·have e0:(0:Int)<(q:Int):=by omega
     have j7:0<q:=by omega
     go_upto_if 71 with fail
     go_cut [15] from 68 to 78 (λav wx=>wr=wx/\∃t:Nat,t<q/\av=.int .i64 (t:Int))
     case first=>
      as_aux_lemma=>
      by_cases l9:j<m
      ·obtain⟨g,o,rfl,hg,c0⟩:=Rt.cell (Jf.below g7.out Br) l9;obtain⟨z,hz⟩:∃z,zs.getD j 0=z:=⟨_,rfl⟩;rw[hz] at c0;have o7:-9223372036854775808<=z/\z<=9223372036854775807:=by
        refine n7.out z ?_;rw[<-hz,List.getD_eq_getElem?_getD,List.getElem?_eq_getElem (by rw[n8.out];exact l9)];exact List.getElem_mem _
       have Hk:=Lib.hid (q5x z q o7 j7 (by omega) wr);have e1:(j:Int)<(m:Int):=by omega
       have e2:(0:Int)<=(j:Int):=by omega
       have p4:=(Jf.below g7.out Br).cap;have o4:=(Jf.below g7.out Br).max;unfold maxLen at o4;clear hz hT a2 O J Q lk d5;go_wp2_with fail
       refine Hk.out.mono ?_;rintro e w5 ⟨rfl,rfl⟩;clear c0;go_wp2_with fail
       go_meet
       exact⟨rfl,md z q,quq z j7,rfl⟩
      ·have e1:¬(j:Int)<(m:Int):=by omega
       clear hT a2 O J Q lk d5;go_wp2_with fail
       go_meet
       exact⟨rfl,0,j7,rfl⟩
     case rest=>
      as_aux_lemma=>
      obtain⟨rfl,t,m3,rfl⟩:=hcut;obtain⟨x,hx⟩:∃x,Qj l' t=x:=⟨_,rfl⟩;have d3:t<l'.length:=by rw[d5.out];exact m3
      obtain⟨g,o,V,vp,vq,rfl,hg,j0,c0,c1,c2,c3,hs,e8⟩:=S.cell m3;rw[hx] at c0 c1 c2 hs e8;have f0:x∈l':=by rw[<-hx];exact List.mem_of_getElem? (q11 d3)
      have k0:=e9 x f0;have j9:=qaz (b.may x k0);have e5:=qrv d6 d3;rw[hx] at e5;have u:=Er.Qau hT a2;rw[qaw (hn.trans a7.symm),i7,q4z lk (hn.trans a7.symm),i9,hn,List.length_map] at u;have p1:l.length<=60:=g3.out;have o6:vp<=28:=by have:=(b.may x k0).2;have:=hs.len;omega
      have b0:=qld (k:=x.k) (v:=Zd x.v) G λy hy=>O y hy x f0
      have Z:∀y∈Zo x.k (Zd x.v) false its,y=pl x\/y∈its:=q41 G;have e7:=q25 (k:=x.k) (v:=Zd x.v) G;obtain⟨T,Y⟩:∃L,Zo x.k (Zd x.v) false its=L:=⟨_,rfl⟩;rw[Y] at b0 Z e7;have hF:∀H,Turn U wr H->H.cell? ⟨g,o+t*4,none⟩=some (.int .i64 x.k.obj)/\H.cell? ⟨g,o+t*4+1,none⟩=some (.int .i64 x.k.kind)/\H.cell? ⟨g,o+t*4+2,none⟩=some (.int .i64 x.k.off)/\H.cell? ⟨g,o+t*4+3,none⟩=some (.slice V vp vq):=λH t=>
       have E:=t.block g hg j0;⟨(World.cell?_of_block (a:=⟨g,_,none⟩) E).trans c0,(World.cell?_of_block (a:=⟨g,_,none⟩) E).trans c1,(World.cell?_of_block (a:=⟨g,_,none⟩) E).trans c2,(World.cell?_of_block (a:=⟨g,_,none⟩) E).trans c3⟩
      have i2:Below wr.1.size wr wr.drew:=(Below.refl _ _).drew;have d7:=Lib.hid (q4i x.v V vp vq wr.drew (hs.below i2) (by omega));have a1:=Lib.hid (λ(w5:World) (bb:Below wr.1.size wr w5) (A5:Option Addr) (c5:Nat) (s5:Sl w5 A5 vp c5 (Zd x.v)) (h5:∀g,q01 A5=some g->¬U g)=>(Er.below bb).Ey (root:=f9) (H0:=Jr root) hb hT G (λy hy=>d9 y (J y hy)) x.k (Zd x.v) j9 (by omega) (by unfold Jr;split<;>simp) A5 vp c5 s5 (λ_=>h5) (by omega) T Y);have R:=Er.low;have e1:(t:Int)<(q:Int):=by omega
      have e2:(0:Int)<=(t:Int):=by omega
      obtain⟨i5,a6⟩:=S.Zq.bounds;unfold maxLen at a6;have b9:=Lib.hid lk;replace hn:=Lib.hid hn;have i8:∀y∈T,y∈l.map pl:=λy hy=>(Z y hy).elim (λh=>by rw[h];exact List.mem_map_of_mem k0) (J y)
      have i6:∀y∈T,∀z∈l'.take t++l'.drop (t+1),y.k.same z.k=false:=λy hy z hz=>by
       rcases Z y hy with rfl|h
       ·exact e5 z hz
       ·exact O y h z ((List.mem_append.1 hz).elim List.mem_of_mem_take List.mem_of_mem_drop)
      have a8:T.length+(q-1)=i:=by omega
      replace hx:=Lib.hid hx;replace u:=Lib.hid u;replace Y:=Lib.hid Y;replace Q:=Lib.hid Q;replace a8:=Lib.hid a8;replace b0:=Lib.hid b0;clear lk Z e5 O J;go_wp2_with fail
      go_region_held3 (λH=>H.cell? ⟨g,o+t*4,none⟩=some (.int .i64 x.k.obj)/\H.cell? ⟨g,o+t*4+1,none⟩=some (.int .i64 x.k.kind)/\H.cell? ⟨g,o+t*4+2,none⟩=some (.int .i64 x.k.off)/\H.cell? ⟨g,o+t*4+3,none⟩=some (.slice V vp vq))
       (first|(with_reducible assumption)|(with_reducible exact hF _ (Qv i2))|(with_reducible exact hF _ (Qv W))|(with_reducible exact hF _ X6))
       (first
        |(have hh:=W;go_at_call 30;refine (a1.out _ W _ _ O5.sl i3).mono ?_;rintro e f ⟨r,P6,rfl,N6⟩;have X6:Turn U wr f:=(Qv W).trans N6.turn (λ_ h=>.inl h))
        |(go_at_call 29;refine d7.out.mono ?_;rintro e w5 ⟨A5,c5,rfl,O5,b5⟩;have W:Below wr.1.size wr w5:=i2.trans b5;have i3:=q70 O5 (λk E=>(R k E).2))
        |fail)
      have o0:=S.turned X6;have g0:Below w.1.size w f:=Br.trans (X6.below (λk E=>Nat.le_trans b1.size (hU k E)) Br.size);have k1:w2.1.size<=f.1.size:=Nat.le_trans zr X6.size;have l4:=N6.other a2;clear c0 c1 c2 c3 hs e8 d7 a1 hF a2;have e3:(l'.take t++l'.drop (t+1)).length+1=q:=by rw[List.length_append,List.length_take,List.length_drop,d5.out];omega
      have e6:=qgy d6 t;have b4:∀y∈l'.take t++l'.drop (t+1),y∈l:=λy hy=>e9 y ((List.mem_append.1 hy).elim List.mem_of_mem_take List.mem_of_mem_drop)
      have o1:=N6.tree;have bD:Below f.1.size f f.drew:=(Below.refl _ _).drew;obtain⟨F',X⟩:∃F:Option Addr->List UInt8->Prop,F=λV v=>FU U V v/\(v≠[]->∀g,q01 V=some g->g<f.1.size):=⟨_,rfl⟩
      have I6:Zg F' f (some ⟨g,o,none⟩) q c' l':=q3s o0.row λV p q v hs hf=>by rw[X];exact⟨hf,λhv=>hs.Qa hv⟩
      have c8:∀V v,F' V v->v≠[]->∀g,q01 V=some g->g<f.1.size:=λV v h=>by rw[X] at h;exact h.2
      have g1:∀V v,F' V v->FU U V v:=λV v h=>by rw[X] at h;exact h.1
      have J0:Je F' (f.drew.alloc (.cells #[] 68)) f.1.size (some ⟨f.1.size,0,none⟩) 0 0 []:=q26 f.drew;have bA:Below f.1.size f (f.drew.alloc (.cells #[] 68)):=bD.alloc bD.size _;have g8:Zg F' f (some ⟨g,o,none⟩) t c' (l'.take t):=by
       have h:=I6.sub (i:=0) (j:=t) (Nat.zero_le _) (by omega) (by omega);rw[if_neg (by omega),Nat.sub_zero,Nat.sub_zero,List.drop_zero] at h;exact h
      have g9:Zg F' f (if c'=t+1 then some ⟨g,o,none⟩ else some ⟨g,o+(t+1)*4,none⟩) (q-(t+1)) (c'-(t+1)) (l'.drop (t+1)):=by
       have h:=I6.sub (i:=t+1) (j:=q) (by omega) (Nat.le_refl _) (by omega);rw[List.take_of_length_le (by rw[List.length_drop,d5.out];exact Nat.le_refl _)] at h;exact h
      have n9:∀k,q01 (if c'=t+1 then some (⟨g,o,none⟩:Addr) else some ⟨g,o+(t+1)*4,none⟩)=some k->¬f.1.size<=k:=λk E h=>by
       have h2:g=k:=by
        split at E
        ·exact Option.some.inj E
        ·exact Option.some.inj E
       have:=X6.size;omega
      clear X;have f1:(t:Int)<=(c':Int):=by omega
      have f2:IntKind.i64.wrap ((t:Int)+1)=(t:Int)+1:=IntWalk.i64_in _ (by omega);have f3:(t:Int)+1<=(q:Int):=by omega
      have f4:(q:Int)<=(c':Int):=by omega
      have f5:(0:Int)<=(t:Int)+1:=by omega
      have f6:((t:Int)+1).toNat=t+1:=by omega
      have bG:g<f.1.size:=by have:=X6.size;omega
      have f7:(0:Int)<=(q:Int):=by omega
      replace e3:=Lib.hid e3;replace g8:=Lib.hid g8;replace g9:=Lib.hid g9;have p2:q<=60:=by omega
      replace g5:=Lib.hid g5;replace e6:=Lib.hid e6;replace b4:=Lib.hid b4;go_wp2_with fail
      go_region_law (first
       |(have hh:=K;rw[if_pos (by rfl)];refine q1f (.tmp 103) (.tmp 107) (by rfl) f.1.size A9 t c9 _ (by rfl) J9 _ (q-(t+1)) (c'-(t+1)) _ (by rfl) (g9.out.turned n0 n9 (λV v hv b8 M I h=>by have:=c8 V v hv b8 M I;omega)) (λV v hv b8 M I h=>n4 M (c8 V v hv b8 M I) h) (by omega) K.size ?_;intro k2 k9 m4 k7 m9 p0;have d8:Below f.1.size f m4:=K.trans (m9.below (λk E=>(J9.Qa k E).1) K.size))
       |(rw[if_pos (by rfl)];refine q1f (.tmp 99) (.tmp 102) (by rfl) f.1.size (some ⟨f.1.size,0,none⟩) 0 0 [] (by rfl) J0 _ t c' _ (by rfl) (g8.out.below bA) (λV v hv b8 M I h=>by have h1:=c8 V v hv b8 M I;have h2:f.1.size=M:=Option.some.inj h;omega) (by omega) bA.size ?_;intro A9 c9 w9 J9 T9 l2;rw[Nat.zero_add,List.nil_append] at J9;have K:Below f.1.size f w9:=bA.trans (T9.below (λk E=>Nat.le_of_eq (Option.some.inj E)) bA.size);have n0:Turn (λk=>f.1.size<=k) f w9:=Qv K;have n4:∀M,M<f.1.size->q01 A9≠some M:=λM h1 h2=>by { have:=(J9.Qa M h2).1;omega }))
      have m8:J8 U m4 k2 (t+(q-(t+1))) k9 (l'.take t++l'.drop (t+1)):=
       ⟨k7.Gn.mono g1,λ_ M I i4=>by have h1:=(k7.Qa M I).1;have h2:=(N6.ed.low M i4).2;omega⟩
      have k3:=g0.trans (d8.mono g0.size);have m6:=N6.ed.below d8;have m7:=b9.out.trans N6.like;have o8:=N6.n.trans hn.out;have o9:=Nat.le_trans k1 d8.size;have g5:=g5.out;have y9:(j:Int)<=60:=by omega
      have y8:IntKind.i64.wrap ((j:Int)+1)=(j:Int)+1:=IntWalk.i64_in _ (by omega);go_wp2_with fail
      have y1:(t+(q-(t+1)))+(j+1)<=i:=by omega
      have y2:i-(j+1)<i-j:=by omega
      have y3:T.length+(t+(q-(t+1)))=i:=by have:=a8.out;omega
      exact⟨⟨j+1,t+(q-(t+1)),k2,k9,_,T,r,P6,y1,rfl,by go_num,rfl,m6,o1,l4,e7,i8,y3,i6,m7,o8,m8,e6.out,b4.out,k3,o9⟩,by simp[intOf];omega⟩
