/- The code's pool: Mount -/
import Derived.Test.YthkfkhejjmhomaaGreatDoorDz24
namespace Go.Proofs.YthkfkhejjmhomaaGreatDoor
open Go Go.RowKit Go.Proofs
set_option maxHeartbeats 8000000
set_option maxRecDepth 100000
section
def Qaz (d:Nat)(S:Sp)(f g q u:Value)(m:Nat):List Value:=.pointer (some ⟨d,0,none⟩)::(S.vs++[f,g,q,u,.map (some m)])
theorem Qwr (d:Nat)(S:Sp)(f g q u:Value)(m:Nat):(Qaz d S f g q u m).length=41:=by unfold Qaz;rw[List.length_cons,List.length_append,S.Jj];rfl
theorem Qpt (d:Nat)(S:Sp)(f g q u:Value)(m k:Nat):(Qaz d S f g q u m)[36+k]?=[f,g,q,u,.map (some m)][k]?:=by
 unfold Qaz;rw[show 36+k=(35+k)+1 by omega,List.getElem?_cons_succ,List.getElem?_append_right (by rw[S.Jj];omega),S.Jj,Nat.add_sub_cancel_left]
theorem Qz7 (d:Nat)(S:Sp)(g q u y:Value)(m:Nat):PH (Qaz d S g q u y m).toArray d m S:=by
 refine⟨by rw[List.size_toArray,Qwr],rfl,λj x f=>?_,?_⟩
 ·have z:=(List.getElem?_eq_some_iff.1 f).1;rw[List.getElem?_toArray,Nat.add_comm];unfold Qaz;rw[List.getElem?_cons_succ,List.getElem?_append_left z];exact f
 ·rw[List.getElem?_toArray];exact Qpt d S g q u y m 4
def bdP (parts:Array (Nat × Value)):Sem Value:=Instr.build 125 parts
theorem Qxp (parts:Array (Nat × Value)):Instr.build 125 parts=bdP parts:=rfl
def ldC (p:Value):Sem Value:=Instr.loadAt 122 p
theorem Qze (p:Value):Instr.loadAt 122 p=ldC p:=rfl
theorem Zbv (d:Nat)(S:Sp)(q u y z:Value)(m:Nat)(w:World):(bdP #[(0,.pointer (some ⟨d,0,none⟩)),(1,.agg S.vs.toArray),(2,.agg #[q,u,y,z]),(3,.map (some m))]).run Tryz.prog w=.ok (.agg (Qaz d S q u y z m).toArray) w:=by
 unfold Qaz Sp.vs;obtain⟨a,b,c,B,e,f,g,h,A⟩:=Qog S.len;rw[A];show (Instr.build 125 _).run Tryz.prog w=_;kernel_rfl
theorem Zfw {f:Nat->List UInt8}{n:Nat}:mtE f true n=4:=by unfold mtE;rw[if_pos rfl]
theorem Qzu {f:Nat->List UInt8}{n:Nat}(h:¬(snE (f 0) (f 1)=0/\(mtS f).Qa=(n:Int))):mtE f false n=27:=by unfold mtE;rw[if_neg (by decide),if_pos h]
theorem Zfx {f:Nat->List UInt8}{n:Nat}(h:snE (f 0) (f 1)=0/\(mtS f).Qa=(n:Int))(h2:¬((∀i,i<Qi n->Qa3 (f (Qh n (mtS f).gen+i)) (Qh n (mtS f).gen+i) (mtS f).gen=true)/\Oj (n:Int) (mtB f n (mtS f).gen)=0)):mtE f false n=5:=by unfold mtE;rw[if_neg (by decide),if_neg (λg=>g h),if_pos h2]
theorem Zfv {f:Nat->List UInt8}{n:Nat}(h:snE (f 0) (f 1)=0/\(mtS f).Qa=(n:Int))(h2:(∀i,i<Qi n->Qa3 (f (Qh n (mtS f).gen+i)) (Qh n (mtS f).gen+i) (mtS f).gen=true)/\Oj (n:Int) (mtB f n (mtS f).gen)=0):mtE f false n=0:=by unfold mtE;rw[if_neg (by decide),if_neg (λg=>g h),if_neg (λg=>g h2)]
theorem Zgd (a b:List UInt8):snE a b=0\/snE a b=27:=by unfold snE;split;exact .inr rfl;exact .inl rfl
def Pl.Qfp (f:Nat->List UInt8)(n:Nat):Pl:=⟨mtS f,mtC f n (mtS f).gen,λ_=>none⟩
attribute [local go_sem ↓] Yz Uo Qxp Qze
theorem Qse {w:World}{d:Nat}{S0:Nat->Prop}{D:DM}(L0:Drv w d S0 D)(ht:Tab w)(d4:(mtS D.newest).gen<1099511627775) :
  Calls Tryz.prog 91 #[.pointer (some ⟨d,0,none⟩)] w λe g=>
   ((mtE D.newest D.off D.n=0/\∃p,e=.returned (.tuple #[.pointer (some ⟨p,0,none⟩),.int .i64 0])/\(∀T:Nat->Prop,(∀k,w.1.size<=k->T k)->Pool g p d (λk=>w.1.size<=k) T (Pl.Qfp D.newest D.n))/\w.1.size<=p)\/
    (mtE D.newest D.off D.n≠0/\e=.returned (.tuple #[.pointer none,.int .i64 (mtE D.newest D.off D.n)])))/\Below w.1.size w g:=by
 have d7:=L0.Qa;unfold Qa at d7;have L:=L0.tight;have b2:=ht.1;obtain⟨_,_,_,_,_,Ly⟩:=L;have O:=on_any Ly;have e8:=Qhr;have e3:=Lib.hid d4;clear L0 d4
 cases B:D.off
 ·rw[B] at O;have L:Drv w d _ D:=⟨_,_,_,_,_,Ly⟩;obtain⟨x0,b5⟩:∃x,D.newest 0=x:=⟨_,rfl⟩;obtain⟨x1,b6⟩:∃x,D.newest 1=x:=⟨_,rfl⟩;have a7:=λg (hb:Below w.1.size w g)=>Qft (Ly.keep λk I _=>hb.block k I) 0
  have a8:=λg (hb:Below w.1.size w g)=>Qft (Ly.keep λk I _=>hb.block k I) 1
  have r0:=Qjp B (s:=0) (by omega);have r1:=Qjp B (s:=1) (by omega);rw[b5] at r0;rw[b6] at r1;have d9:D.Yf 0=x0:=r0.1;have e0:D.Xt 0=0:=r0.2;have e1:D.Yf 1=x1:=r1.1;have e2:D.Xt 1=0:=r1.2;simp only[d9,e0] at a7;simp only[e1,e2] at a8;obtain⟨S,hS⟩:∃S,snS x0 x1=S:=⟨_,rfl⟩;have d5:mtS D.newest=S:=by unfold mtS;rw[b5,b6,hS]
  have hE:snE (D.newest 0) (D.newest 1)=snE x0 x1:=by rw[b5,b6]
  have M:=Lib.hid d5;have HE:=Lib.hid hE;have HS:=Lib.hid hS;have X:=Lib.hid a7;have Y:=Lib.hid a8;have d1:=Lib.hid B;clear a7 a8 r0 r1 d9 e0 e1 e2 d5 hE hS b5 b6 Ly B;rcases Zgd x0 x1 with hE|hE
  ·have a6:S.may=true:=by rw[<-HS.out];exact Ze6 hE
   have b1:=hE;by_cases Q:S.Qa=(D.n:Int)
   ·have d3:snE (D.newest 0) (D.newest 1)=0/\(mtS D.newest).Qa=(D.n:Int):=⟨HE.out.trans hE,by rw[M.out];exact Q⟩;have K:=Lib.hid d3;have c9:=Lib.hid Q;have W:=Lib.hid a6;have e7:((D.n:Int)!=(D.n:Int))=false:=by simp
    clear d3 a6 Q;go_enter Tryz.func91,Tryz.ntmps91
    go_wp2_with (first
     |(go_at_call 153;refine O.mono ?_;rintro e w1 ⟨rfl,rfl⟩)
     |(go_at_call 138;have hh:=H;refine (Y.out w2 H).mono ?_;rintro e w3 ⟨A3,n3,rfl,s3,_,b3,_⟩;have U:=H.trans (b3.mono H.size))
     |(go_at_call 138;refine (X.out w (Below.refl _ _)).mono ?_;rintro e w2 ⟨A2,n2,rfl,s2,_,H,_⟩)
     |(go_at_call 154;have hN:=Qeu A2 n2 n2 x0 A3 n3 n3 x1 w3 (s2.below b3) s3 (ht.below U b2);unfold Qao at hN;rw[HS.out,b1] at hN;refine hN.mono ?_;rintro e F ⟨rfl,b4⟩;have B4:=U.trans (b4.mono U.size))
     |(refine Iz rfl (.tmp 8) (.tmp 29) rfl F.1.size rfl S Sp.zero rfl (SB.new F Sp.zero _) ?_;intro R X6 a2 T6)
     |fail)
    have Z:Below F.1.size F R:=(Ib).trans (a2 _ (Nat.le_refl _));have J:=B4.trans (Z.mono B4.size);have L6:=L.below J;obtain⟨_,_,_,_,_,b0⟩:=L6;have q1:=X6.c1;rw[c9.out] at q1;have zX:F.1.size<R.1.size:=X6.lt;have g1:∀u:Grown R,u.to.cell? ⟨F.1.size,1,none⟩=some (.int .i64 (D.n:Int)):=Grown.cell q1 zX;have G:=Lib.hid (λu:Grown R=>size_any (b0.keep λk I _=>u.ok.block k I));refine Iq (by kernel_rfl) (by kernel_rfl) ?_;repeat (go_big_quiet_step (first
     |(go_at_call 90;exact Calls.Oh (G.out _))
     |fail))
    refine wpQuiet_nil ?_;rintro _ ⟨u,rfl⟩;have V:=J.trans (u.ok.mono J.size);have X7:=X6.below u.ok zX;have L7:=L.below V;have t7:=ht.below V b2;have f0:=X7.ld;clear g1 G q1 b0;go_wp2_with fail
    refine (Qwp L7 d1.out S W.out c9.out t7).mono ?_;rintro e f ⟨⟨hy,pc,rfl,C8,f2⟩|⟨hn,E,d2,rfl⟩,b8⟩
    ·have H0:=Lib.hid (show mtE D.newest false D.n=0 from Zfv K.out (by rw[M.out];exact hy));have d6:=Zer hy.2;have f3:=V.size;have B8:=V.trans (b8.mono V.size);have X8:=X7.below b8 X7.lt;have zp:pc<f.1.size:=C8.lt;have z8:=b8.size;have hC:=C8;obtain⟨a0,e4,a1,e5,ty,cu,k1,⟨k2,k3,k4,k5⟩,k6,k7,k8,k9,f4⟩:=C8;obtain⟨q,b9⟩:∃x:Value,Value.slice (some ⟨a0,0,none⟩) (mtC D.newest D.n S.gen).n e4=x:=⟨_,rfl⟩;obtain⟨y,c6⟩:∃x:Value,Value.slice (some ⟨a1,0,none⟩) (mtC D.newest D.n S.gen).n e5=x:=⟨_,rfl⟩;obtain⟨z,c7⟩:∃x:Value,Value.int .i64 (Qi (mtC D.newest D.n S.gen).n:Int)=x:=⟨_,rfl⟩;obtain⟨A,c8⟩:∃x:Value,Value.int .i64 ((mtC D.newest D.n S.gen).first:Int)=x:=⟨_,rfl⟩;have hF:∀g,Below f.1.size f g->(Cb (.pointer (some ⟨F.1.size,0,none⟩))).run Tryz.prog g=.ok (.agg S.vs.toArray) g/\(ldC (.pointer (some ⟨pc,0,none⟩))).run Tryz.prog g=.ok (.agg #[q,y,z,A]) g/\Below f.1.size f g:=λg hb=>by
      refine⟨(X8.below hb X8.lt).ld,?_,hb⟩;have r:g.rangeAt pc 0 [q,y,z,A]:=λj v hv=>by
       rw[Nat.zero_add];refine Fa ((hb.block pc zp).trans k1) ?_;rw[b9] at k2;rw[c6] at k3;rw[c7] at k4;rw[c8] at k5;match j with
       |0=>rw[k2];exact hv
       |1=>exact k3.trans hv
       |2=>exact k4.trans hv
       |3=>exact k5.trans hv
       |j+4=>simp at hv
      exact run_loadAt_mid g pc 0 122 _ _ r Tryz.underlying122 rfl (by kernel_rfl)
     have BD:Below f.1.size f f.drew:=(Below.refl _ _).drew;have f1:=@run_makeMap Tryz.prog;have e9:=λm g=>Zbv d S q y z A m g
     go_wp2_with fail
     go_region_held3 (λg=>(Cb (.pointer (some ⟨F.1.size,0,none⟩))).run Tryz.prog g=.ok (.agg S.vs.toArray) g/\(ldC (.pointer (some ⟨pc,0,none⟩))).run Tryz.prog g=.ok (.agg #[q,y,z,A]) g/\Below f.1.size f g)
      (first|assumption|exact hF _ BD|exact hF _ (BD.alloc (Nat.le_refl _) _)|exact hF _ (((Ib).alloc (by simp) _).drew))
      (first
       |fail)
     have B9:Below f.1.size f ((f.alloc (.map #[] 0)).alloc (.cells (Qaz d S q y z A f.1.size).toArray 125)).drew:=((Ib).alloc (by simp) _).drew;have b7:((f.alloc (.map #[] 0)).alloc (.cells (Qaz d S q y z A f.1.size).toArray 125)).drew.1[f.1.size]?=some (.map #[] 0):=by
      show ((f.alloc (.map #[] 0)).alloc (.cells (Qaz d S q y z A f.1.size).toArray 125)).1[f.1.size]?=_;rw[heap_alloc_old _ _ (by simp),heap_alloc_new]
     have d0:((f.alloc (.map #[] 0)).alloc (.cells (Qaz d S q y z A f.1.size).toArray 125)).drew.1[f.1.size+1]?=some (.cells (Qaz d S q y z A f.1.size).toArray 125 (0,0)):=by
      show ((f.alloc (.map #[] 0)).alloc (.cells (Qaz d S q y z A f.1.size).toArray 125)).1[f.1.size+1]?=_;have e:f.1.size+1=(f.alloc (.map #[] 0)).1.size:=by simp
      rw[e,heap_alloc_new]
     generalize ((f.alloc (.map #[] 0)).alloc (.cells (Qaz d S q y z A f.1.size).toArray 125)).drew=w9 at B9 b7 d0 ⊢;go_wp2;go_ret2;rw[H0.out];have BB:=B8.trans (B9.mono B8.size);refine⟨.inl ⟨rfl,f.1.size+1,rfl,λT hT=>?_,by omega⟩,BB⟩;have e6:(mtC D.newest D.n S.gen).n=D.n:=Qmw _ _;have C9:Jg w9 (f.1.size+1) 36 (λk=>w.1.size<=k/\k<f.1.size) (mtC D.newest D.n S.gen):=by
      have hS:=(hC.mono (S':=λk=>w.1.size<=k) λk I=>by omega).shrink;refine Jg.around (p:=pc) (o:=0) hS k1 d0 (λj hj=>?_) (λk I=>by omega) λk I _=>B9.block k I
      rw[List.getElem?_toArray,Qpt];match j,hj with
      |0,_=>exact b9.symm▸k2.symm
      |1,_=>exact c6.symm▸k3.symm
      |2,_=>exact c7.symm▸k4.symm
      |3,_=>exact c8.symm▸k5.symm
     have hP:Pl.Qfp D.newest D.n=⟨S,mtC D.newest D.n S.gen,λ_=>none⟩:=by unfold Pl.Qfp;rw[M.out]
     rw[hP];refine⟨f.1.size,_,[],0,λ_=>undef,_,⟨d0,Qz7 d S _ _ _ _ _,C9,b7,⟨λe he=>(by cases he),List.nodup_nil,List.nodup_nil,λe he=>(by cases he)⟩,λa=>?_,λe he=>(by cases he),λa b h=>?_,λa b h=>(by cases h),⟨by omega,by omega,λk I=>I.1⟩,λk I=>by omega,hT,⟨hC.ok,d6,W.out,by rw[e6];exact c9.out,by rw[<-M.out];exact e3.out,λa b h=>(by cases h)⟩,Qpg W.out⟩⟩
     ·unfold Pl.live;split<;>rfl
     ·unfold Pl.live at h;split at h<;>cases h
    ·have H5:=Lib.hid (show mtE D.newest false D.n=5 from Zfx K.out (by rw[M.out];exact hn));have nb:(E != 0)=true:=by simpa using d2
     clear hn d2;go_wp2;go_ret2;rw[H5.out];exact⟨.inr ⟨by omega,rfl⟩,V.trans (b8.mono V.size)⟩
   ·have K:=Lib.hid (show mtE D.newest false D.n=27 from Qzu (λh=>Q (by rw[<-M.out];exact h.2)));have e7:(S.Qa != (D.n:Int))=true:=by simpa using Q
    clear a6 Q;go_enter Tryz.func91,Tryz.ntmps91
    go_wp2_with (first
     |(go_at_call 153;refine O.mono ?_;rintro e w1 ⟨rfl,rfl⟩)
     |(go_at_call 138;have hh:=H;refine (Y.out w2 H).mono ?_;rintro e w3 ⟨A3,n3,rfl,s3,_,b3,_⟩;have U:=H.trans (b3.mono H.size))
     |(go_at_call 138;refine (X.out w (Below.refl _ _)).mono ?_;rintro e w2 ⟨A2,n2,rfl,s2,_,H,_⟩)
     |(go_at_call 154;have hN:=Qeu A2 n2 n2 x0 A3 n3 n3 x1 w3 (s2.below b3) s3 (ht.below U b2);unfold Qao at hN;rw[HS.out,b1] at hN;refine hN.mono ?_;rintro e F ⟨rfl,b4⟩;have B4:=U.trans (b4.mono U.size))
     |(refine Iz rfl (.tmp 8) (.tmp 29) rfl F.1.size rfl S Sp.zero rfl (SB.new F Sp.zero _) ?_;intro R X6 a2 T6)
     |fail)
    have Z:Below F.1.size F R:=(Ib).trans (a2 _ (Nat.le_refl _));have J:=B4.trans (Z.mono B4.size);have L6:=L.below J;obtain⟨_,_,_,_,_,b0⟩:=L6;have zX:F.1.size<R.1.size:=X6.lt;have g1:∀u:Grown R,u.to.cell? ⟨F.1.size,1,none⟩=some (.int .i64 S.Qa):=Grown.cell X6.c1 zX;have G:=Lib.hid (λu:Grown R=>size_any (b0.keep λk I _=>u.ok.block k I));refine Iq (by kernel_rfl) (by kernel_rfl) ?_;repeat (go_big_quiet_step (first
     |(go_at_call 90;exact Calls.Oh (G.out _))
     |fail))
    refine wpQuiet_nil ?_;rintro _ ⟨u,rfl⟩;have V:=J.trans (u.ok.mono J.size);go_wp2;go_ret2;rw[K.out];exact⟨.inr ⟨by omega,rfl⟩,V⟩
  ·have b1:=hE;have K:=Lib.hid (show mtE D.newest false D.n=27 from Qzu (λh=>by have:=h.1;rw[HE.out,hE] at this;cases this));go_enter Tryz.func91,Tryz.ntmps91
   go_wp2_with (first
     |(go_at_call 153;refine O.mono ?_;rintro e w1 ⟨rfl,rfl⟩)
     |(go_at_call 138;have hh:=H;refine (Y.out w2 H).mono ?_;rintro e w3 ⟨A3,n3,rfl,s3,_,b3,_⟩;have U:=H.trans (b3.mono H.size))
     |(go_at_call 138;refine (X.out w (Below.refl _ _)).mono ?_;rintro e w2 ⟨A2,n2,rfl,s2,_,H,_⟩)
     |(go_at_call 154;have hN:=Qeu A2 n2 n2 x0 A3 n3 n3 x1 w3 (s2.below b3) s3 (ht.below U b2);unfold Qao at hN;rw[HS.out,b1] at hN;refine hN.mono ?_;rintro e F ⟨rfl,b4⟩;have B4:=U.trans (b4.mono U.size))
     |(refine Iz rfl (.tmp 8) (.tmp 29) rfl F.1.size rfl S Sp.zero rfl (SB.new F Sp.zero _) ?_;intro R X6 a2 T6)
     |fail)
   have Z:Below F.1.size F R:=(Ib).trans (a2 _ (Nat.le_refl _));have J:=B4.trans (Z.mono B4.size);go_quiet (fail)
   generalize d8:World.drewN R _=w7;have V:Below w.1.size w w7:=by rw[<-d8];exact⟨J.os,J.tape,J.output,J.size,J.block⟩
   clear d8;go_wp2;go_ret2;rw[K.out];exact⟨.inr ⟨by omega,rfl⟩,V⟩
 ·rw[B] at O;have H4:=Lib.hid (show mtE D.newest true D.n=4 from Zfw);go_enter Tryz.func91,Tryz.ntmps91
  go_wp2_with (first
   |(go_at_call 153;refine O.mono ?_;rintro e w1 ⟨rfl,rfl⟩)
   |fail)
  go_ret2;rw[H4.out];exact⟨.inr ⟨by omega,rfl⟩,Below.refl _ _⟩
end
section
open Go.ChangeMaps (setBlock)
section
variable {P:Program}{w:World}{t k e b clock:Nat}{l:List MapEntry}
theorem Qbx (E:Jl l clock)(y:P.underlying t=some (.map k e))(g:P.underlying k=some (.int .i64)){z:Value}(D:(zeroValue e).run P w=.ok z w)(q:w.1[b]?=some (.map l.toArray clock))(s:Int) :
  (Instr.lookup t (.map (some b)) (.int .i64 s) true).run P w=.ok (.tuple #[(Qd s l).getD z,.bool (Qd s l).isSome]) w:=by
 have u:=λA=>MapKept.run_checkKey (P:=P) (w:=w) g (k:=.int .i64 s) rfl A 9999
 rcases Qfb s l 0 E.key with⟨h1,h2,_⟩|⟨j,x,h1,_,_,B,_⟩
 ·have f:=MapKept.run_findKey (P:=P) (w:=w) g h1;simp[Instr.lookup,run_underlying y,MapKept.run_getObj_map q,u,f,D,h2]
 ·have f:=MapKept.run_findKey (P:=P) (w:=w) g h1;simp[Instr.lookup,run_underlying y,MapKept.run_getObj_map q,u,f,B]
end
section
variable {w w1 w2:World}{p d m clock:Nat}{cur:Array Value}{l:List MapEntry}{v:Nat->Value}{Sc S T:Nat->Prop}{P P':Pl}
theorem PL.store (L:PL w p d m cur l clock v Sc S T P)(t:Turn Sc w w1)(C1:Jg w1 p 36 Sc P'.C)(b12:Below w1.1.size w1 w2)(hn:P'.C.n=P.C.n)(hS:P'.S=P.S){a:Nat}(ha:a<P.C.n){b:Bk}(hlive:∀c,P'.live c=if c=a then some b else P.live c)
  (hgood:∀c x,P'.L c=some x->x.good) (hok:P'.ok) {q:Nat} (hx:Sl w2 (some ⟨q,0,none⟩) 256 256 (b.out a 0)) (hq:¬T q) :
  Pool (setBlock w2 m (.map (Qv (a:Int) (.slice (some ⟨q,0,none⟩) 256 256) clock l).toArray (if Qd (a:Int) l=none then clock+1 else clock))) p d S T P'/\
   Turn S w (setBlock w2 m (.map (Qv (a:Int) (.slice (some ⟨q,0,none⟩) 256 256) clock l).toArray (if Qd (a:Int) l=none then clock+1 else clock))):=by
 have O:=t.block m L.mlt λh=>(L.ne m h).2 rfl
 have Q:=L.mlt;have R:=t.size;have U:=b12.size;have I:Turn S w w2:=(t.mono L.Zk.2.2).then (Uk b12);have u:Turn (λk=>k=m) w2 (setBlock w2 m (.map (Qv (a:Int) (.slice (some ⟨q,0,none⟩) 256 256) clock l).toArray (if Qd (a:Int) l=none then clock+1 else clock))):=Gh _ rfl;have y:(setBlock w2 m (.map (Qv (a:Int) (.slice (some ⟨q,0,none⟩) 256 256) clock l).toArray (if Qd (a:Int) l=none then clock+1 else clock))).1[m]?=some (.map (Qv (a:Int) (.slice (some ⟨q,0,none⟩) 256 256) clock l).toArray (if Qd (a:Int) l=none then clock+1 else clock)):=Gl (by omega);generalize setBlock w2 m (.map (Qv (a:Int) (.slice (some ⟨q,0,none⟩) 256 256) clock l).toArray (if Qd (a:Int) l=none then clock+1 else clock))=V at u y ⊢;have f:∀k,k<w.1.size->k≠m->¬Sc k->V.1[k]?=w.1[k]?:=λk A D E=>(u.block k (by omega) D).trans ((b12.block k (by omega)).trans (t.block k A E))
 have F:=f p L.Yw L.Vm (λh=>(L.ne p h).1 rfl);refine⟨⟨m,cur,Qv (a:Int) (.slice (some ⟨q,0,none⟩) 256 256) clock l,(if Qd (a:Int) l=none then clock+1 else clock),upd v a (.slice (some ⟨q,0,none⟩) 256 256),Sc,F.trans L.me,hS▸L.ph,?_,y,L.ents.put (a:Int) _,λc=>?_,λe M=>?_,λc x h=>?_,hgood,L.Zk,L.ne,L.sub,hok,hS▸L.Jz⟩,I.trans u λk A=>by rw[A];exact .inl L.Zk.2.1⟩
 ·have H:=C1.below b12;exact H.keep (u.block p (by have:=L.Yw;omega) L.Vm) λk A G=>u.block k A λe=>(L.ne k G).2 e
 ·rw[Ac,hlive c];by_cases e:c=a
  ·subst e;rw[if_pos rfl,if_pos rfl,Y9];rfl
  ·rw[if_neg (by omega),if_neg e,Y8 _ _ e];exact L.look c
 ·rw[hn];rcases V3 M with h|⟨h,_⟩
  ·exact L.keys e h
  ·exact⟨a,ha,by unfold kI;rw[h]⟩
 ·rw[hlive c] at h;by_cases e:c=a
  ·rw[if_pos e] at h;injection h with h;subst h e;rw[Y9];refine⟨q,256,rfl,?_,hq⟩;exact PL.keep.stay_slice hx u.size λz=>u.block q z λe=>hq (by rw[e];exact L.sub m L.Zk.2.1)
  ·rw[if_neg e] at h;rw[Y8 _ _ e];obtain⟨g,J,K,G,z⟩:=L.row c x h;exact⟨g,J,K,PL.keep.stay_slice G (by have:=u.size;omega) λB=>f g B (λe=>z (by rw[e];exact L.sub m L.Zk.2.1)) λh=>z (L.sub g (L.Zk.2.2 g h)),z⟩
theorem PL.drop (L:PL w p d m cur l clock v Sc S T P)(t:Turn Sc w w1)(C1:Jg w1 p 36 Sc P'.C)(hn:P'.C.n=P.C.n)(hS:P'.S=P.S){z:Int}(hlive:∀c:Nat,P'.live c=if (c:Int)=z then none else P.live c)
  (hgood:∀c x,P'.L c=some x->x.good) (hok:P'.ok) :
  Pool (setBlock w1 m (.map (Q9 z l).toArray clock)) p d S T P'/\Turn S w (setBlock w1 m (.map (Q9 z l).toArray clock)):=by
 have K:=L.mlt;have M:=t.size;have q:Turn (λk=>k=m) w1 (setBlock w1 m (.map (Q9 z l).toArray clock)):=Gh _ rfl;have u:(setBlock w1 m (.map (Q9 z l).toArray clock)).1[m]?=some (.map (Q9 z l).toArray clock):=Gl (by omega);generalize setBlock w1 m (.map (Q9 z l).toArray clock)=O at q u ⊢;have f:∀k,k<w.1.size->k≠m->¬Sc k->O.1[k]?=w.1[k]?:=λk y D E=>(q.block k (by omega) D).trans (t.block k y E)
 have F:=f p L.Yw L.Vm (λh=>(L.ne p h).1 rfl);refine⟨⟨m,cur,Q9 z l,clock,v,Sc,F.trans L.me,hS▸L.ph,?_,u,L.ents.del z,λc=>?_,λe J=>?_,λc x h=>?_,hgood,L.Zk,L.ne,L.sub,hok,hS▸L.Jz⟩,(t.mono L.Zk.2.2).trans q λk y=>by rw[y];exact .inl L.Zk.2.1⟩
 ·exact C1.keep (q.block p (by have:=L.Yw;omega) L.Vm) λk y G=>q.block k y λe=>(L.ne k G).2 e
 ·rw[Ad _ L.ents.one,hlive c];by_cases e:(c:Int)=z
  ·rw[if_pos e,if_pos e];rfl
  ·rw[if_neg e,if_neg e];exact L.look c
 ·rw[hn];exact L.keys e (V4 J)
 ·rw[hlive c] at h;split at h
  ·cases h
  ·obtain⟨g,H,I,G,A⟩:=L.row c x h;exact⟨g,H,I,PL.keep.stay_slice G (by have:=q.size;omega) λB=>f g B (λe=>A (by rw[e];exact L.sub m L.Zk.2.1)) λh=>A (L.sub g (L.Zk.2.2 g h)),A⟩
end
theorem Qzm {P:Pl}{a:Nat}(h:P.C.pick=some a)(b:Bk)(c:Nat):(P.lay b).live c=if c=a then some b else P.live c:=by
 unfold Pl.live;by_cases f:c<P.C.n
 ·rw[F7 h b c f,Ar h b c];by_cases e:c=a
  ·rw[if_pos e,if_pos e,if_pos e,if_neg (by omega)]
  ·rw[if_neg e,if_neg e,if_neg e]
 ·have u:=(Ct.Zm h).1;have e:c≠a:=by omega
  have g:P.C.get (c:Int)=0:=by unfold Ct.get;rw[if_neg (by omega)]
  have q:(P.lay b).C.get (c:Int)=0:=by unfold Ct.get;rw[Kq,if_neg (by omega)]
  rw[g,q,if_neg e,if_pos rfl,if_pos rfl]
section
variable {w:World}{p d:Nat}{S T:Nat->Prop}{P:Pl}
theorem Qcd (H:Pool w p d S T P)(a x:Int)(g:P.C.get a=x) :
  Calls Tryz.prog 38 #[.pointer (some ⟨p,0,none⟩),.int .i64 a] w λe q=>e=.returned (.int .i64 x)/\w=q:=by
 obtain⟨m,cur,l,clock,v,Sc,L⟩:=H;have f:=Rh L.ct a x g;go_enter Tryz.func38,Tryz.ntmps38
 go_wp2_with fail
 refine f.mono ?_;rintro e w1 ⟨rfl,rfl⟩;go_wp2;go_ret;exact⟨rfl,rfl⟩
end
section
attribute [local go_sem ↓] Yz Uo
end
end
section
open Go.ChangeMaps (setBlock)
theorem Qiv {P:Pl}(h:P.C.pick=none)(b:Bk):P.lay b=P:=by unfold Pl.lay;rw[h]
theorem Qyu {P:Pl}{b:Bk}(q:b.good)(h:∀c x,P.L c=some x->x.good):∀c x,(P.lay b).L c=some x->x.good:=λc x f=>by
 cases g:P.C.pick with
 |none=>rw[Qiv g] at f;exact h c x f
 |some a=>
  rw[Ar g] at f;split at f
  ·injection f with f;exact f▸q
  ·exact h c x f
theorem Qmd (C:Ct)(a:Int)(c:Nat):(C.Zf a).get (c:Int)=if (c:Int)=a then C.Oa a else C.get (c:Int):=by
 by_cases h0:C.get a=0
 ·have f:C.Zf a=C:=by unfold Ct.Zf;rw[if_pos h0]
  have g:C.Oa a=0:=by unfold Ct.Oa;rw[if_pos h0]
  rw[f,g];by_cases e:(c:Int)=a
  ·rw[if_pos e,e,h0]
  ·rw[if_neg e]
 ·have f:C.Zf a=C.put a.toNat (C.get a-1):=by unfold Ct.Zf;rw[if_neg h0]
  have g:C.Oa a=C.get a-1:=by unfold Ct.Oa;rw[if_neg h0]
  have y:0<=a/\a<(C.n:Int):=Classical.byContradiction λh=>h0 (by unfold Ct.get;rw[if_neg h])
  obtain⟨V,q⟩:∃V,C.get a-1=V:=⟨_,rfl⟩;rw[f,g,q];by_cases u:c<C.n
  ·have h1:(C.put a.toNat V).get (c:Int)=nm (C.put a.toNat V).now c:=by unfold Ct.get;rw[C.Qc,if_pos (by omega),Int.toNat_natCast]
   have h2:C.get (c:Int)=nm C.now c:=by unfold Ct.get;rw[if_pos (by omega),Int.toNat_natCast]
   rw[h1,h2,Vx _ _ _ _ u];by_cases e:c=a.toNat
   ·rw[if_pos e,if_pos (by omega)]
   ·rw[if_neg e,if_neg (by omega)]
  ·have h1:(C.put a.toNat V).get (c:Int)=0:=by unfold Ct.get;rw[C.Qc,if_neg (by omega)]
   have h2:C.get (c:Int)=0:=by unfold Ct.get;rw[if_neg (by omega)]
   rw[h1,h2,if_neg (by omega)]
theorem Qka {C:Ct}{a:Int}(h:C.Oa a≠0):C.get a≠0:=λh0=>h (by unfold Ct.Oa;rw[if_pos h0])
theorem Qr1 (P:Pl)(a:Int)(c:Nat):Pl.live ⟨P.S,P.C.Zf a,P.L⟩ c=if (c:Int)=a/\P.C.Oa a=0 then none else P.live c:=by
 show (if (P.C.Zf a).get (c:Int)=0 then none else P.L c)=if (c:Int)=a/\P.C.Oa a=0 then none else (if P.C.get (c:Int)=0 then none else P.L c)
 rw[Qmd];by_cases e:(c:Int)=a
 ·rw[if_pos e];by_cases h:P.C.Oa a=0
  ·rw[if_pos h,if_pos ⟨e,h⟩]
  ·rw[if_neg h,if_neg λh2=>h h2.2,e,if_neg (Qka h)]
 ·have f:¬((c:Int)=a/\P.C.Oa a=0):=λh2=>e h2.1
  rw[if_neg e,if_neg f]
theorem Zbg {P:Pl}(h:P.ok)(a:Int):Pl.ok ⟨P.S,P.C.Zf a,P.L⟩:=
 ⟨Ct.Qxe h.c a,Ct.Qxf h.res a,h.may,by show P.S.Qa=((P.C.Zf a).n:Int);rw[Ct.Qni];exact h.sec,h.gen,h.fine⟩
theorem Qsg {w:World}{p d:Nat}{S T:Nat->Prop}{P:Pl}(H:Pool w p d S T P)(a:Int) :
  Calls Tryz.prog 149 #[.pointer (some ⟨p,0,none⟩),.int .i64 a] w λe Y=>e=.returned (.tuple #[.int .i64 (P.C.Oa a),.int .i64 (P.C.Jc a)])/\Pool Y p d S T ⟨P.S,P.C.Zf a,P.L⟩/\Turn S w Y:=by
 have U:=H.ok;obtain⟨m,cur,l,clock,v,Sc,L⟩:=H;have f:=Qrd L.ct a;have g:=Qr1 P a;have q:=Qmd P.C a;have y:=Qka (C:=P.C) (a:=a);have F:=Zbg U a;obtain⟨V,O⟩:∃V,P.C.Oa a=V:=⟨_,rfl⟩;obtain⟨E,X⟩:∃E,P.C.Jc a=E:=⟨_,rfl⟩;rw[O] at f g y ⊢;simp only[O] at q;rw[X] at f ⊢;have D:=Lib.hid f;have J:=Lib.hid g;have B:=Lib.hid F;have K:=Lib.hid q;have M:=Lib.hid y;have a6:=L.Yw;have a2:=L.mlt;clear f g F O X q y;by_cases h0:V=0
 ·have nb:(V==0)=true:=by simpa using h0
  have G:=Lib.hid h0;clear h0;go_enter Tryz.func149,Tryz.ntmps149
  go_wp2_with fail
  refine D.out.mono ?_;rintro e w1 ⟨rfl,I,A⟩;have W:=A.block p L.Yw λh=>(L.ne p h).1 rfl
  have Q:=A.block m L.mlt λh=>(L.ne m h).2 rfl
  have Fj:w1.cell? ⟨p,40,none⟩=some (.map (some m)):=(World.cell?_of_block (a:=⟨p,40,none⟩) W).trans L.c40;have a1:=λu ty=>Qcq (P:=Tryz.prog) (t:=123) (k:=3) (e:=48) L.ents Tryz.underlying123 Tryz.underlying3 (Q.trans L.map) a u ty
  obtain⟨Z,R2⟩:=L.drop (P':=⟨P.S,P.C.Zf a,P.L⟩) (z:=a) A I (Ct.Qni _ _) rfl (λc=>by rw[J.out c];simp only[G.out,and_true]) L.good B.out;go_wp2;go_ret2;exact⟨rfl,Z,R2⟩
 ·have nb:(V==0)=false:=by simpa using h0
  have G:=Lib.hid h0;clear h0;go_enter Tryz.func149,Tryz.ntmps149
  go_wp2_with fail
  refine D.out.mono ?_;rintro e w1 ⟨rfl,I,A⟩;have R:=L.Ze3 A I (Ct.Qni _ _) (λc=>?_) B.out
  ·go_wp2;go_ret2;exact⟨rfl,⟨m,cur,l,clock,v,Sc,R⟩,A.mono L.Zk.2.2⟩
  ·rw[K.out c];by_cases e:(c:Int)=a
   ·rw[if_pos e,e];exact⟨λh=>absurd h G.out,λh=>absurd h (M.out G.out)⟩
   ·rw[if_neg e]
end
section
variable {w:World}{p d:Nat}{S T:Nat->Prop}{P:Pl}
theorem Qz6 (H:Pool w p d S T P)(a:Int)(h0:P.C.get a=0) :
  Calls Tryz.prog 83 #[.pointer (some ⟨p,0,none⟩),.int .i64 a] w λe g=>e=.returned (.tuple #[.slice none 0 0,.int .i64 0,.int .i64 1])/\w=g:=by
 have f:=Qcd H a 0 h0;go_enter Tryz.func83,Tryz.ntmps83
 go_wp2_with (first
  |(go_at_call 38;refine f.mono ?_;rintro e w1 ⟨rfl,rfl⟩)
  |fail)
 go_ret3;exact⟨rfl,rfl⟩
theorem Qsd (H:Pool w p d S T P)(a:Nat)(b:Bk)(q:P.live a=some b) :
  Calls Tryz.prog 83 #[.pointer (some ⟨p,0,none⟩),.int .i64 (a:Int)] w λe z=>∃A n c,e=.returned (.tuple #[.slice A n c,.int .i64 1,.int .i64 0])/\Sl z A n c (b.out a 0)/\Below w.1.size w z:=by
 obtain⟨x,y⟩:∃x,P.C.get (a:Int)=x:=⟨_,rfl⟩;have u:x≠0:=λh=>by unfold Pl.live at q;rw[if_pos (y.trans h)] at q;cases q
 have B:=Qcd H (a:Int) x y;have F:(x==0)=false:=by simpa using u
 obtain⟨m,cur,l,clock,v,Sc,L⟩:=H;obtain⟨g,c,E,D,_⟩:=L.row a b q;have Fj:=L.c40;have f:=Qbx L.ents Tryz.underlying123 Tryz.underlying3 (Tryz.zeroValue48 w) L.map (a:Int);rw[L.look a,q,E] at f;replace f:(Instr.lookup 123 (.map (some m)) (.int .i64 (a:Int)) true).run Tryz.prog w=.ok (.tuple #[.slice (some ⟨g,0,none⟩) 256 c,.bool true]) w:=f;clear y u q;go_enter Tryz.func83,Tryz.ntmps83
 go_wp2_with (first
  |(go_at_call 38;refine B.mono ?_;rintro e w1 ⟨rfl,rfl⟩)
  |fail)
 go_ret3;exact⟨_,_,_,rfl,D,Below.refl _ _⟩
theorem Qhf {E:Nat->Prop}{D:DM}(z:Drv w d E D)(H:Pool w p d S T P)(a:Nat)(h0:P.C.get (a:Int)≠0)(u:P.live a=none) :
  Calls Tryz.prog 83 #[.pointer (some ⟨p,0,none⟩),.int .i64 (a:Int)] w λe y=>∃A n c,e=.returned (.tuple #[.slice A n c,.int .i64 5,.int .i64 (D.Xt (a:Int))])/\Sl y A n c (D.Yf (a:Int))/\Below w.1.size w y:=by
 obtain⟨x,q⟩:∃x,P.C.get (a:Int)=x:=⟨_,rfl⟩;rw[q] at h0;have G:=Qcd H (a:Int) x q;have J:(x==0)=false:=by simpa using h0
 obtain⟨m,cur,l,clock,v,Sc,L⟩:=H;have Fj:=L.c40;have K:=L.c0;have f:=Qbx L.ents Tryz.underlying123 Tryz.underlying3 (Tryz.zeroValue48 w) L.map (a:Int);rw[L.look a,u] at f;replace f:(Instr.lookup 123 (.map (some m)) (.int .i64 (a:Int)) true).run Tryz.prog w=.ok (.tuple #[.slice none 0 0,.bool false]) w:=f;obtain⟨_,_,_,_,_,B⟩:=z;have g:=Qft B (a:Int);clear q h0 u;go_enter Tryz.func83,Tryz.ntmps83
 go_wp2_with (first
  |(go_at_call 38;refine G.mono ?_;rintro e w1 ⟨rfl,rfl⟩)
  |(go_at_call 138;refine g.mono ?_;rintro e w2 ⟨A,n,rfl,I,_,F,_⟩)
  |fail)
 go_ret3;exact⟨_,_,_,rfl,I,F⟩
end
section
theorem Qtv (n:Nat):Qw n=X4 n++Qd5 (Ct.zero n) (fmtS n):=by
 unfold Qw X5 fmtC Qd5 Bh;rw[Ct.Qg];show X4 n++(Ya (Qh n 1) (Zc (Ct.zero n) 1)++[.fl]++[.w 1 (swB (fmtS n) 1),.fl])=X4 n++(Ya (Qh n 1) (Zc (Ct.zero n) 1)++.fl::[.w 1 (swB (fmtS n) 1),.fl]);rw[List.append_assoc];rfl
theorem Zbx (g x:Int)(w:World):(Bg #[(0,.int .i64 g),(1,.int .i64 x)]).run Tryz.prog w=.ok (.agg (sp0 g x 0).vs.toArray) w:=by
 show (Instr.build 120 #[(0,.int .i64 g),(1,.int .i64 x)]).run Tryz.prog w=_;kernel_rfl
structure V8 (w0 w:World)(p d q:Nat)(S0:Nat->Prop)(D:DM)(P:Pl):Prop where
 turn:Turn S0 w0 w
 Vh:Drv w d (λk=>(S0 k\/w0.heap.size<=k)/\k<q) D
 pool:∀T:Nat->Prop,(∀k,q<=k->T k)->Pool w p d (λk=>q<=k) T P
 ge:w0.heap.size<=q/\q<=w.heap.size
attribute [local go_sem ↓] Ur
theorem Qpr {w:World}{d:Nat}{V:Nat->Prop}{D:DM}(L:Drv w d V D)(M:D.free)(hG:¬V 1)(ht:Tab w){m:Nat}(b1:D.Y4 m)(hm:m<=700000) :
  Calls Tryz.prog 42 #[.pointer (some ⟨d,0,none⟩)] w λe w'=>∃p q,e=.returned (.tuple #[.pointer (some ⟨p,0,none⟩),.int .i64 0])/\V8 w w' p d q V (D.Qn (Qw D.n)) (Pl.fresh D.n):=by
 have f:=L.Qa;unfold Qa at f;obtain⟨J,g,_⟩:=Ws f.1 f.2 rfl M;obtain⟨n,hn⟩:∃n,D.n=n:=⟨_,rfl⟩;rw[hn] at J g f ⊢;rw[Qtv] at J;have E:D.Jo (X4 n)=0:=Classical.byContradiction λh=>h (by
  have:=(Qdb (l':=Qd5 (Ct.zero n) (fmtS n)) h).1;rw[this] at J;exact J)
 have K:(D.Qn (X4 n)).Jo (Qd5 (Ct.zero n) (fmtS n))=0:=by rw[Qbd,if_pos E] at J;exact J
 have G:D.Qn (Qw n)=(D.Qn (X4 n)).Qn (Qd5 (Ct.zero n) (fmtS n)):=by rw[Qtv,Qbc,if_pos E]
 have A:=Qsc L b1 (by omega);rw[hn] at A;have a6:D.Qd4 (X4 n)=true:=decide_eq_true E;rw[a6] at A;obtain⟨D1,F⟩:∃x,D.Qn (X4 n)=x:=⟨_,rfl⟩;obtain⟨D2,z⟩:∃x,D.Qn (Qw n)=x:=⟨_,rfl⟩;have b0:D1.n=n:=by rw[<-F,Zap];exact hn
 have O:D2.n=n:=by rw[<-z,Zap];exact hn
 have c7:D1.Y4 (m+3):=by rw[<-F];exact Qdf _ b1
 rw[F] at A K G;rw[z] at g G ⊢;have a7:D1.Qd4 (Qd5 (Ct.zero n) (fmtS n))=true:=decide_eq_true K;have y:=Qm8 g;rw[O] at y;have a8:(mtS D2.newest).gen<1099511627775:=by rw[y.2.1];show (1:Int)<1099511627775;omega
 have hP:Pl.Qfp D2.newest n=Pl.fresh n:=by
  unfold Pl.Qfp Pl.fresh;rw[y.2.1];have:mtC D2.newest n (fmtS n).gen=Ct.zero n:=by
   have h:=y.2.2;have e:(Ct.zero n).commit=Ct.zero n:=rfl;rw[e] at h;exact h
  rw[this]
 have H:=g.free.on;have b8:=Lib.hid y.1;have b6:=Lib.hid A;have b5:=Lib.hid a7;have b3:=Lib.hid G;have HP:=Lib.hid hP;have b7:=Lib.hid a8;have X:=Lib.hid H;have W:=Lib.hid b0;have b9:=Lib.hid O;have HG:=Lib.hid hG;have c8:=Zbx 1 (n:Int);have d0:=ht.1;clear A a7 G hP a8 H b0 O y a6 K E J g hG hn F z;go_enter Tryz.func42,Tryz.ntmps42
 go_wp2_with fail
 refine b6.out.mono ?_;rintro e w1 ⟨rfl,U⟩;have t1:=ht.turned U.turn HG.out;have Ly:=U.Vh.tight;obtain⟨_,_,_,_,_,Z⟩:=Ly;have u:=size_any Z;rw[W.out] at u;have c6:=Lib.hid u;clear u Z;go_wp2_with (first
  |(go_at_call 90;refine c6.out.mono ?_;rintro e w2 ⟨rfl,rfl⟩)
  |fail)
 refine (Qh9 n f.1 f.2 w1).mono ?_;rintro e w2 ⟨pc,rfl,C2,c9,b2⟩;have I:=U.Vh.tight.below b2;have t2:=t1.below b2 t1.1;have z1:=U.turn.size;have z2:=b2.size;obtain⟨_,_,_,_,_,a1⟩:=I;have u:=size_any a1;have I:=U.Vh.tight.below b2;rw[W.out] at u;have a2:=Lib.hid u;clear u a1;go_wp2_with (first
  |(go_at_call 90;refine a2.out.mono ?_;rintro e w3 ⟨rfl,rfl⟩)
  |fail)
 have R:=Qpv I C2 (λk B=>⟨by have:=B.2;omega,λh=>by have:=B.2;omega⟩) (λh=>h.1.elim HG.out λh2=>by omega) (fmtS n) (Vu f.1 f.2) (Qpg (Vu f.1 f.2)) (by rw[Ct.Qg];rfl) t2 c7 (by omega);rw[b5.out,<-b3.out] at R;refine R.mono ?_;rintro e w3 ⟨rfl,Y⟩;clear R;have t3:=t2.turned Y.turn λh=>h.1.elim HG.out λh2=>by omega
 have z3:=Y.turn.size;go_wp2_with fail
 refine (Qse Y.Vh t3 b7.out).mono ?_;rw[X.out,b9.out,HP.out,b8.out];rintro e w4 ⟨⟨_,p,rfl,Q,hp⟩|⟨h,_⟩,b4⟩
 ·go_wp2;go_ret2;refine⟨p,w3.1.size,rfl,?_,?_,Q,by omega,b4.size⟩
  ·have T2:Turn V w w2:=U.turn.trans (Uk b2) λk B=>.inl B
   have T3:Turn V w w3:=T2.trans Y.turn λk B=>B.1.elim .inl λh=>.inr h
   exact T3.trans (Uk b4) λk B=>.inl B
  ·exact ((Y.Vh.mono (S':=λk=>(V k\/w.1.size<=k)/\k<w3.1.size) λk B h=>⟨h.elim (λh=>h.1) λh=>.inr (by omega),B⟩).below b4)
 ·exact absurd rfl h
end
