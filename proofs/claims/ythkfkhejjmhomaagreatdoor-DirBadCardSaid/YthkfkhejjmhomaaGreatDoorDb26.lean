/- The code's pool: Mount -/
import Derived.Test.YthkfkhejjmhomaaGreatDoorDb24
namespace Go.Proofs.YthkfkhejjmhomaaGreatDoor
open Go Go.RowKit Go.Proofs
set_option maxHeartbeats 8000000
set_option maxRecDepth 100000
section
def Wp (d:Nat)(S:Sp)(f u y A:Value)(m:Nat):List Value:=.pointer (some ⟨d,0,none⟩)::(S.vs++[f,u,y,A,.map (some m)])
theorem qp1 (d:Nat)(S:Sp)(f u y A:Value)(m:Nat):(Wp d S f u y A m).length=41:=by unfold Wp;rw[List.length_cons,List.length_append,S.Zy];rfl
theorem qjg (d:Nat)(S:Sp)(f u y A:Value)(m k:Nat):(Wp d S f u y A m)[36+k]?=[f,u,y,A,.map (some m)][k]?:=by
 unfold Wp;rw[show 36+k=(35+k)+1 by omega,List.getElem?_cons_succ,List.getElem?_append_right (by rw[S.Zy];omega),S.Zy,Nat.add_sub_cancel_left]
theorem qtn (d:Nat)(S:Sp)(u y A B:Value)(m:Nat):PH (Wp d S u y A B m).toArray d m S:=by
 refine⟨by rw[List.size_toArray,qp1],rfl,λj x f=>?_,?_⟩
 ·have D:=(List.getElem?_eq_some_iff.1 f).1;rw[List.getElem?_toArray,Nat.add_comm];unfold Wp;rw[List.getElem?_cons_succ,List.getElem?_append_left D];exact f
 ·rw[List.getElem?_toArray];exact qjg d S u y A B m 4
def bdP (parts:Array (Nat × Value)):Sem Value:=Instr.build 125 parts
theorem qto (parts:Array (Nat × Value)):Instr.build 125 parts=bdP parts:=rfl
def ldC (p:Value):Sem Value:=Instr.loadAt 122 p
theorem qjh (p:Value):Instr.loadAt 122 p=ldC p:=rfl
theorem qxe (d:Nat)(S:Sp)(u y A B:Value)(m:Nat)(w:World):(bdP #[(0,.pointer (some ⟨d,0,none⟩)),(1,.agg S.vs.toArray),(2,.agg #[u,y,A,B]),(3,.map (some m))]).run Tryz.prog w=.ok (.agg (Wp d S u y A B m).toArray) w:=by
 unfold Wp Sp.vs;obtain⟨a,b,c,E,e,f,g,h,D⟩:=qis S.len;rw[D];show (Instr.build 125 _).run Tryz.prog w=_;kernel_rfl
theorem Qcb {f:Nat->List UInt8}{n:Nat}:Ep f true n=4:=by unfold Ep;rw[if_pos rfl]
theorem qw1 {f:Nat->List UInt8}{n:Nat}(h:¬(Ey (f 0) (f 1)=0/\(Gx f).Qa=(n:Int))):Ep f false n=27:=by unfold Ep;rw[if_neg (by decide),if_pos h]
theorem Qcc {f:Nat->List UInt8}{n:Nat}(h:Ey (f 0) (f 1)=0/\(Gx f).Qa=(n:Int))(h2:¬((∀i,i<Qh n->Kt (f (Qv n (Gx f).gen+i)) (Qv n (Gx f).gen+i) (Gx f).gen=true)/\J9 (n:Int) (Si f n (Gx f).gen)=0)):Ep f false n=5:=by unfold Ep;rw[if_neg (by decide),if_neg (λu=>u h),if_pos h2]
theorem Qca {f:Nat->List UInt8}{n:Nat}(h:Ey (f 0) (f 1)=0/\(Gx f).Qa=(n:Int))(h2:(∀i,i<Qh n->Kt (f (Qv n (Gx f).gen+i)) (Qv n (Gx f).gen+i) (Gx f).gen=true)/\J9 (n:Int) (Si f n (Gx f).gen)=0):Ep f false n=0:=by unfold Ep;rw[if_neg (by decide),if_neg (λu=>u h),if_neg (λu=>u h2)]
theorem Qcy (a b:List UInt8):Ey a b=0\/Ey a b=27:=by unfold Ey;split;exact .inr rfl;exact .inl rfl
def Pl.Gn (f:Nat->List UInt8)(n:Nat):Pl:=⟨Gx f,Nv f n (Gx f).gen,λ_=>none⟩
attribute [local go_sem ↓] q1n q4s qto qjh
theorem qm0 {w:World}{d:Nat}{S0:Nat->Prop}{D:DM}(L0:Wu w d S0 D)(ht:Tab w)(d8:(Gx D.newest).gen<1099511627775) :
  Calls Tryz.prog 91 #[.pointer (some ⟨d,0,none⟩)] w λe y=>
   ((Ep D.newest D.off D.n=0/\∃p,e=.returned (.tuple #[.pointer (some ⟨p,0,none⟩),.int .i64 0])/\(∀T:Nat->Prop,(∀k,w.1.size<=k->T k)->Pool y p d (λk=>w.1.size<=k) T (Pl.Gn D.newest D.n))/\w.1.size<=p)\/
    (Ep D.newest D.off D.n≠0/\e=.returned (.tuple #[.pointer none,.int .i64 (Ep D.newest D.off D.n)])))/\Below w.1.size w y:=by
 have e1:=L0.Qa;unfold Qa at e1;have L:=L0.tight;have b9:=ht.1;obtain⟨_,_,_,_,_,Ly⟩:=L;have U:=qz9 Ly;have f2:=qd3;have e7:=Lib.hid d8;clear L0 d8
 cases H:D.off
 ·rw[H] at U;have L:Wu w d _ D:=⟨_,_,_,_,_,Ly⟩;obtain⟨x0,c6⟩:∃x,D.newest 0=x:=⟨_,rfl⟩;obtain⟨x1,c7⟩:∃x,D.newest 1=x:=⟨_,rfl⟩;have b2:=λy (hb:Below w.1.size w y)=>q8t (Ly.keep λk M _=>hb.block k M) 0
  have b5:=λy (hb:Below w.1.size w y)=>q8t (Ly.keep λk M _=>hb.block k M) 1
  have r0:=qdg H (s:=0) (by omega);have r1:=qdg H (s:=1) (by omega);rw[c6] at r0;rw[c7] at r1;have e3:D.Yp 0=x0:=r0.1;have e4:D.Ye 0=0:=r0.2;have e5:D.Yp 1=x1:=r1.1;have e6:D.Ye 1=0:=r1.2;simp only[e3,e4] at b2;simp only[e5,e6] at b5;obtain⟨S,hS⟩:∃S,snS x0 x1=S:=⟨_,rfl⟩;have d9:Gx D.newest=S:=by unfold Gx;rw[c6,c7,hS]
  have hE:Ey (D.newest 0) (D.newest 1)=Ey x0 x1:=by rw[c6,c7]
  have R:=Lib.hid d9;have HE:=Lib.hid hE;have HS:=Lib.hid hS;have a6:=Lib.hid b2;have a7:=Lib.hid b5;have d5:=Lib.hid H;clear b2 b5 r0 r1 e3 e4 e5 e6 d9 hE hS c6 c7 Ly H;rcases Qcy x0 x1 with hE|hE
  ·have b1:S.may=true:=by rw[<-HS.out];exact qyz hE
   have b7:=hE;by_cases W:S.Qa=(D.n:Int)
   ·have d7:Ey (D.newest 0) (D.newest 1)=0/\(Gx D.newest).Qa=(D.n:Int):=⟨HE.out.trans hE,by rw[R.out];exact W⟩;have Q:=Lib.hid d7;have d3:=Lib.hid W;have a2:=Lib.hid b1;have f1:((D.n:Int)!=(D.n:Int))=false:=by simp
    clear d7 b1 W;go_enter Tryz.func91,Tryz.ntmps91
    go_wp2_with (first
     |(go_at_call 153;refine U.mono ?_;rintro e w1 ⟨rfl,rfl⟩)
     |(go_at_call 138;have hh:=K;refine (a7.out w2 K).mono ?_;rintro e w3 ⟨A3,n3,rfl,s3,_,b3,_⟩;have Y:=K.trans (b3.mono K.size))
     |(go_at_call 138;refine (a6.out w (Below.refl _ _)).mono ?_;rintro e w2 ⟨A2,n2,rfl,s2,_,K,_⟩)
     |(go_at_call 154;have hN:=q7b A2 n2 n2 x0 A3 n3 n3 x1 w3 (s2.below b3) s3 (ht.below Y b9);unfold q36 at hN;rw[HS.out,b7] at hN;refine hN.mono ?_;rintro e I ⟨rfl,b4⟩;have B4:=Y.trans (b4.mono Y.size))
     |(refine Eu rfl (.tmp 8) (.tmp 29) rfl I.1.size rfl S Sp.zero rfl (SB.new I Sp.zero _) ?_;intro X X6 b0 T6)
     |fail)
    have a8:Below I.1.size I X:=(Qk).trans (b0 _ (Nat.le_refl _));have O:=B4.trans (a8.mono B4.size);have L6:=L.below O;obtain⟨_,_,_,_,_,b6⟩:=L6;have q1:=X6.c1;rw[d3.out] at q1;have zX:I.1.size<X.1.size:=X6.lt;have g1:∀u:Grown X,u.to.cell? ⟨I.1.size,1,none⟩=some (.int .i64 (D.n:Int)):=Grown.cell q1 zX;have J:=Lib.hid (λu:Grown X=>q8y (b6.keep λk M _=>u.ok.block k M));refine Uk (by kernel_rfl) (by kernel_rfl) ?_;repeat (go_big_quiet_step (first
     |(go_at_call 90;exact Calls.J6 (J.out _))
     |fail))
    refine wpQuiet_nil ?_;rintro _ ⟨u,rfl⟩;have Z:=O.trans (u.ok.mono O.size);have X7:=X6.below u.ok zX;have L7:=L.below Z;have t7:=ht.below Z b9;have f4:=X7.ld;clear g1 J q1 b6;go_wp2_with fail
    refine (qox L7 d5.out S a2.out d3.out t7).mono ?_;rintro e f ⟨⟨hy,pc,rfl,C8,f9⟩|⟨hn,E,d6,rfl⟩,b8⟩
    ·have H0:=Lib.hid (show Ep D.newest false D.n=0 from Qca Q.out (by rw[R.out];exact hy));have e0:=qz0 hy.2;have g0:=Z.size;have B8:=Z.trans (b8.mono Z.size);have X8:=X7.below b8 X7.lt;have zp:pc<f.1.size:=C8.lt;have z8:=b8.size;have hC:=C8;obtain⟨a0,e8,a1,e9,ty,cu,k1,⟨k2,k3,k4,k5⟩,k6,k7,k8,k9,g2⟩:=C8;obtain⟨A,c9⟩:∃x:Value,Value.slice (some ⟨a0,0,none⟩) (Nv D.newest D.n S.gen).n e8=x:=⟨_,rfl⟩;obtain⟨B,d0⟩:∃x:Value,Value.slice (some ⟨a1,0,none⟩) (Nv D.newest D.n S.gen).n e9=x:=⟨_,rfl⟩;obtain⟨F,d1⟩:∃x:Value,Value.int .i64 (Qh (Nv D.newest D.n S.gen).n:Int)=x:=⟨_,rfl⟩;obtain⟨G,d2⟩:∃x:Value,Value.int .i64 ((Nv D.newest D.n S.gen).first:Int)=x:=⟨_,rfl⟩;have hF:∀y,Below f.1.size f y->(ldS (.pointer (some ⟨I.1.size,0,none⟩))).run Tryz.prog y=.ok (.agg S.vs.toArray) y/\(ldC (.pointer (some ⟨pc,0,none⟩))).run Tryz.prog y=.ok (.agg #[A,B,F,G]) y/\Below f.1.size f y:=λy hb=>by
      refine⟨(X8.below hb X8.lt).ld,?_,hb⟩;have r:y.rangeAt pc 0 [A,B,F,G]:=λj v hv=>by
       rw[Nat.zero_add];refine Fb ((hb.block pc zp).trans k1) ?_;rw[c9] at k2;rw[d0] at k3;rw[d1] at k4;rw[d2] at k5;match j with
       |0=>rw[k2];exact hv
       |1=>exact k3.trans hv
       |2=>exact k4.trans hv
       |3=>exact k5.trans hv
       |j+4=>simp at hv
      exact run_loadAt_mid y pc 0 122 _ _ r Tryz.underlying122 rfl (by kernel_rfl)
     have BD:Below f.1.size f f.drew:=(Below.refl _ _).drew;have f8:=@run_makeMap Tryz.prog;have f3:=λm y=>qxe d S A B F G m y
     go_wp2_with fail
     go_region_held3 (λy=>(ldS (.pointer (some ⟨I.1.size,0,none⟩))).run Tryz.prog y=.ok (.agg S.vs.toArray) y/\(ldC (.pointer (some ⟨pc,0,none⟩))).run Tryz.prog y=.ok (.agg #[A,B,F,G]) y/\Below f.1.size f y)
      (first|assumption|exact hF _ BD|exact hF _ (BD.alloc (Nat.le_refl _) _)|exact hF _ (((Qk).alloc (by simp) _).drew))
      (first
       |fail)
     have B9:Below f.1.size f ((f.alloc (.map #[] 0)).alloc (.cells (Wp d S A B F G f.1.size).toArray 125)).drew:=((Qk).alloc (by simp) _).drew;have c8:((f.alloc (.map #[] 0)).alloc (.cells (Wp d S A B F G f.1.size).toArray 125)).drew.1[f.1.size]?=some (.map #[] 0):=by
      show ((f.alloc (.map #[] 0)).alloc (.cells (Wp d S A B F G f.1.size).toArray 125)).1[f.1.size]?=_;rw[heap_alloc_old _ _ (by simp),heap_alloc_new]
     have d4:((f.alloc (.map #[] 0)).alloc (.cells (Wp d S A B F G f.1.size).toArray 125)).drew.1[f.1.size+1]?=some (.cells (Wp d S A B F G f.1.size).toArray 125 (0,0)):=by
      show ((f.alloc (.map #[] 0)).alloc (.cells (Wp d S A B F G f.1.size).toArray 125)).1[f.1.size+1]?=_;have e:f.1.size+1=(f.alloc (.map #[] 0)).1.size:=by simp
      rw[e,heap_alloc_new]
     generalize ((f.alloc (.map #[] 0)).alloc (.cells (Wp d S A B F G f.1.size).toArray 125)).drew=w9 at B9 c8 d4 ⊢;go_wp2;go_ret2;rw[H0.out];have BB:=B8.trans (B9.mono B8.size);refine⟨.inl ⟨rfl,f.1.size+1,rfl,λT hT=>?_,by omega⟩,BB⟩;have f0:(Nv D.newest D.n S.gen).n=D.n:=qhj _ _;have C9:Yj w9 (f.1.size+1) 36 (λk=>w.1.size<=k/\k<f.1.size) (Nv D.newest D.n S.gen):=by
      have hS:=(hC.mono (S':=λk=>w.1.size<=k) λk M=>by omega).shrink;refine Yj.around (p:=pc) (o:=0) hS k1 d4 (λj hj=>?_) (λk M=>by omega) λk M _=>B9.block k M
      rw[List.getElem?_toArray,qjg];match j,hj with
      |0,_=>exact c9.symm▸k2.symm
      |1,_=>exact d0.symm▸k3.symm
      |2,_=>exact d1.symm▸k4.symm
      |3,_=>exact d2.symm▸k5.symm
     have hP:Pl.Gn D.newest D.n=⟨S,Nv D.newest D.n S.gen,λ_=>none⟩:=by unfold Pl.Gn;rw[R.out]
     rw[hP];refine⟨f.1.size,_,[],0,λ_=>undef,_,⟨d4,qtn d S _ _ _ _ _,C9,c8,⟨λe he=>(by cases he),List.nodup_nil,List.nodup_nil,λe he=>(by cases he)⟩,λa=>?_,λe he=>(by cases he),λa b h=>?_,λa b h=>(by cases h),⟨by omega,by omega,λk M=>M.1⟩,λk M=>by omega,hT,⟨hC.ok,e0,a2.out,by rw[f0];exact d3.out,by rw[<-R.out];exact e7.out,λa b h=>(by cases h)⟩,qjf a2.out⟩⟩
     ·unfold Pl.live;split<;>rfl
     ·unfold Pl.live at h;split at h<;>cases h
    ·have H5:=Lib.hid (show Ep D.newest false D.n=5 from Qcc Q.out (by rw[R.out];exact hn));have nb:(E != 0)=true:=by simpa using d6
     clear hn d6;go_wp2;go_ret2;rw[H5.out];exact⟨.inr ⟨by omega,rfl⟩,Z.trans (b8.mono Z.size)⟩
   ·have Q:=Lib.hid (show Ep D.newest false D.n=27 from qw1 (λh=>W (by rw[<-R.out];exact h.2)));have f1:(S.Qa != (D.n:Int))=true:=by simpa using W
    clear b1 W;go_enter Tryz.func91,Tryz.ntmps91
    go_wp2_with (first
     |(go_at_call 153;refine U.mono ?_;rintro e w1 ⟨rfl,rfl⟩)
     |(go_at_call 138;have hh:=K;refine (a7.out w2 K).mono ?_;rintro e w3 ⟨A3,n3,rfl,s3,_,b3,_⟩;have Y:=K.trans (b3.mono K.size))
     |(go_at_call 138;refine (a6.out w (Below.refl _ _)).mono ?_;rintro e w2 ⟨A2,n2,rfl,s2,_,K,_⟩)
     |(go_at_call 154;have hN:=q7b A2 n2 n2 x0 A3 n3 n3 x1 w3 (s2.below b3) s3 (ht.below Y b9);unfold q36 at hN;rw[HS.out,b7] at hN;refine hN.mono ?_;rintro e I ⟨rfl,b4⟩;have B4:=Y.trans (b4.mono Y.size))
     |(refine Eu rfl (.tmp 8) (.tmp 29) rfl I.1.size rfl S Sp.zero rfl (SB.new I Sp.zero _) ?_;intro X X6 b0 T6)
     |fail)
    have a8:Below I.1.size I X:=(Qk).trans (b0 _ (Nat.le_refl _));have O:=B4.trans (a8.mono B4.size);have L6:=L.below O;obtain⟨_,_,_,_,_,b6⟩:=L6;have zX:I.1.size<X.1.size:=X6.lt;have g1:∀u:Grown X,u.to.cell? ⟨I.1.size,1,none⟩=some (.int .i64 S.Qa):=Grown.cell X6.c1 zX;have J:=Lib.hid (λu:Grown X=>q8y (b6.keep λk M _=>u.ok.block k M));refine Uk (by kernel_rfl) (by kernel_rfl) ?_;repeat (go_big_quiet_step (first
     |(go_at_call 90;exact Calls.J6 (J.out _))
     |fail))
    refine wpQuiet_nil ?_;rintro _ ⟨u,rfl⟩;have Z:=O.trans (u.ok.mono O.size);go_wp2;go_ret2;rw[Q.out];exact⟨.inr ⟨by omega,rfl⟩,Z⟩
  ·have b7:=hE;have Q:=Lib.hid (show Ep D.newest false D.n=27 from qw1 (λh=>by have:=h.1;rw[HE.out,hE] at this;cases this));go_enter Tryz.func91,Tryz.ntmps91
   go_wp2_with (first
     |(go_at_call 153;refine U.mono ?_;rintro e w1 ⟨rfl,rfl⟩)
     |(go_at_call 138;have hh:=K;refine (a7.out w2 K).mono ?_;rintro e w3 ⟨A3,n3,rfl,s3,_,b3,_⟩;have Y:=K.trans (b3.mono K.size))
     |(go_at_call 138;refine (a6.out w (Below.refl _ _)).mono ?_;rintro e w2 ⟨A2,n2,rfl,s2,_,K,_⟩)
     |(go_at_call 154;have hN:=q7b A2 n2 n2 x0 A3 n3 n3 x1 w3 (s2.below b3) s3 (ht.below Y b9);unfold q36 at hN;rw[HS.out,b7] at hN;refine hN.mono ?_;rintro e I ⟨rfl,b4⟩;have B4:=Y.trans (b4.mono Y.size))
     |(refine Eu rfl (.tmp 8) (.tmp 29) rfl I.1.size rfl S Sp.zero rfl (SB.new I Sp.zero _) ?_;intro X X6 b0 T6)
     |fail)
   have a8:Below I.1.size I X:=(Qk).trans (b0 _ (Nat.le_refl _));have O:=B4.trans (a8.mono B4.size);go_quiet (fail)
   generalize e2:World.drewN X _=w7;have Z:Below w.1.size w w7:=by rw[<-e2];exact⟨O.os,O.tape,O.output,O.size,O.block⟩
   clear e2;go_wp2;go_ret2;rw[Q.out];exact⟨.inr ⟨by omega,rfl⟩,Z⟩
 ·rw[H] at U;have H4:=Lib.hid (show Ep D.newest true D.n=4 from Qcb);go_enter Tryz.func91,Tryz.ntmps91
  go_wp2_with (first
   |(go_at_call 153;refine U.mono ?_;rintro e w1 ⟨rfl,rfl⟩)
   |fail)
  go_ret2;rw[H4.out];exact⟨.inr ⟨by omega,rfl⟩,Below.refl _ _⟩
end
section
open Go.ChangeMaps (setBlock)
section
variable {P:Program}{w:World}{t k e b clock:Nat}{l:List MapEntry}
theorem q46 (E:U1 l clock)(B:P.underlying t=some (.map k e))(u:P.underlying k=some (.int .i64)){z:Value}(G:(zeroValue e).run P w=.ok z w)(y:w.1[b]?=some (.map l.toArray clock))(s:Int) :
  (Instr.lookup t (.map (some b)) (.int .i64 s) true).run P w=.ok (.tuple #[(Zf s l).getD z,.bool (Zf s l).isSome]) w:=by
 have A:=λD=>MapKept.run_checkKey (P:=P) (w:=w) u (k:=.int .i64 s) rfl D 9999
 rcases q9a s l 0 E.key with⟨h1,h2,_⟩|⟨j,x,h1,_,_,F,_⟩
 ·have f:=MapKept.run_findKey (P:=P) (w:=w) u h1;simp[Instr.lookup,run_underlying B,MapKept.run_getObj_map y,A,f,G,h2]
 ·have f:=MapKept.run_findKey (P:=P) (w:=w) u h1;simp[Instr.lookup,run_underlying B,MapKept.run_getObj_map y,A,f,F]
end
section
variable {w w1 w2:World}{p d m clock:Nat}{cur:Array Value}{l:List MapEntry}{v:Nat->Value}{Sc S T:Nat->Prop}{P P':Pl}
theorem PL.store (L:PL w p d m cur l clock v Sc S T P)(t:Turn Sc w w1)(C1:Yj w1 p 36 Sc P'.C)(b12:Below w1.1.size w1 w2)(hn:P'.C.n=P.C.n)(hS:P'.S=P.S){a:Nat}(ha:a<P.C.n){b:Bk}(hlive:∀c,P'.live c=if c=a then some b else P.live c)
  (hgood:∀c x,P'.L c=some x->x.good) (hok:P'.ok) {q:Nat} (hx:Sl w2 (some ⟨q,0,none⟩) 256 256 (b.out a 0)) (hq:¬T q) :
  Pool (setBlock w2 m (.map (J3 (a:Int) (.slice (some ⟨q,0,none⟩) 256 256) clock l).toArray (if Zf (a:Int) l=none then clock+1 else clock))) p d S T P'/\
   Turn S w (setBlock w2 m (.map (J3 (a:Int) (.slice (some ⟨q,0,none⟩) 256 256) clock l).toArray (if Zf (a:Int) l=none then clock+1 else clock))):=by
 have Q:=t.block m L.mlt λh=>(L.ne m h).2 rfl
 have R:=L.mlt;have U:=t.size;have W:=b12.size;have J:Turn S w w2:=(t.mono L.Yn.2.2).then (Qx b12);have u:Turn (λk=>k=m) w2 (setBlock w2 m (.map (J3 (a:Int) (.slice (some ⟨q,0,none⟩) 256 256) clock l).toArray (if Zf (a:Int) l=none then clock+1 else clock))):=q0t _ rfl;have y:(setBlock w2 m (.map (J3 (a:Int) (.slice (some ⟨q,0,none⟩) 256 256) clock l).toArray (if Zf (a:Int) l=none then clock+1 else clock))).1[m]?=some (.map (J3 (a:Int) (.slice (some ⟨q,0,none⟩) 256 256) clock l).toArray (if Zf (a:Int) l=none then clock+1 else clock)):=q2n (by omega);generalize setBlock w2 m (.map (J3 (a:Int) (.slice (some ⟨q,0,none⟩) 256 256) clock l).toArray (if Zf (a:Int) l=none then clock+1 else clock))=X at u y ⊢;have f:∀k,k<w.1.size->k≠m->¬Sc k->X.1[k]?=w.1[k]?:=λk B E F=>(u.block k (by omega) E).trans ((b12.block k (by omega)).trans (t.block k B F))
 have G:=f p L.F8 L.p_m (λh=>(L.ne p h).1 rfl);refine⟨⟨m,cur,J3 (a:Int) (.slice (some ⟨q,0,none⟩) 256 256) clock l,(if Zf (a:Int) l=none then clock+1 else clock),upd v a (.slice (some ⟨q,0,none⟩) 256 256),Sc,G.trans L.me,hS▸L.ph,?_,y,L.ents.put (a:Int) _,λc=>?_,λe O=>?_,λc x h=>?_,hgood,L.Yn,L.ne,L.sub,hok,hS▸L.D6⟩,J.trans u λk B=>by rw[B];exact .inl L.Yn.2.1⟩
 ·have I:=C1.below b12;exact I.keep (u.block p (by have:=L.F8;omega) L.p_m) λk B H=>u.block k B λe=>(L.ne k H).2 e
 ·rw[qcy,hlive c];by_cases e:c=a
  ·subst e;rw[if_pos rfl,if_pos rfl,Bd];rfl
  ·rw[if_neg (by omega),if_neg e,Au _ _ e];exact L.look c
 ·rw[hn];rcases q99 O with h|⟨h,_⟩
  ·exact L.keys e h
  ·exact⟨a,ha,by unfold kI;rw[h]⟩
 ·rw[hlive c] at h;by_cases e:c=a
  ·rw[if_pos e] at h;injection h with h;subst h e;rw[Bd];refine⟨q,256,rfl,?_,hq⟩;exact PL.keep.stay_slice hx u.size λA=>u.block q A λe=>hq (by rw[e];exact L.sub m L.Yn.2.1)
  ·rw[if_neg e] at h;rw[Au _ _ e];obtain⟨g,K,M,H,A⟩:=L.row c x h;exact⟨g,K,M,PL.keep.stay_slice H (by have:=u.size;omega) λD=>f g D (λe=>A (by rw[e];exact L.sub m L.Yn.2.1)) λh=>A (L.sub g (L.Yn.2.2 g h)),A⟩
theorem PL.drop (L:PL w p d m cur l clock v Sc S T P)(t:Turn Sc w w1)(C1:Yj w1 p 36 Sc P'.C)(hn:P'.C.n=P.C.n)(hS:P'.S=P.S){z:Int}(hlive:∀c:Nat,P'.live c=if (c:Int)=z then none else P.live c)
  (hgood:∀c x,P'.L c=some x->x.good) (hok:P'.ok) :
  Pool (setBlock w1 m (.map (Xp z l).toArray clock)) p d S T P'/\Turn S w (setBlock w1 m (.map (Xp z l).toArray clock)):=by
 have M:=L.mlt;have O:=t.size;have u:Turn (λk=>k=m) w1 (setBlock w1 m (.map (Xp z l).toArray clock)):=q0t _ rfl;have y:(setBlock w1 m (.map (Xp z l).toArray clock)).1[m]?=some (.map (Xp z l).toArray clock):=q2n (by omega);generalize setBlock w1 m (.map (Xp z l).toArray clock)=Q at u y ⊢;have f:∀k,k<w.1.size->k≠m->¬Sc k->Q.1[k]?=w.1[k]?:=λk A E F=>(u.block k (by omega) E).trans (t.block k A F)
 have G:=f p L.F8 L.p_m (λh=>(L.ne p h).1 rfl);refine⟨⟨m,cur,Xp z l,clock,v,Sc,G.trans L.me,hS▸L.ph,?_,y,L.ents.del z,λc=>?_,λe K=>?_,λc x h=>?_,hgood,L.Yn,L.ne,L.sub,hok,hS▸L.D6⟩,(t.mono L.Yn.2.2).trans u λk A=>by rw[A];exact .inl L.Yn.2.1⟩
 ·exact C1.keep (u.block p (by have:=L.F8;omega) L.p_m) λk A H=>u.block k A λe=>(L.ne k H).2 e
 ·rw[q8q _ L.ents.one,hlive c];by_cases e:(c:Int)=z
  ·rw[if_pos e,if_pos e];rfl
  ·rw[if_neg e,if_neg e];exact L.look c
 ·rw[hn];exact L.keys e (q5n K)
 ·rw[hlive c] at h;split at h
  ·cases h
  ·obtain⟨g,I,J,H,B⟩:=L.row c x h;exact⟨g,I,J,PL.keep.stay_slice H (by have:=u.size;omega) λD=>f g D (λe=>B (by rw[e];exact L.sub m L.Yn.2.1)) λh=>B (L.sub g (L.Yn.2.2 g h)),B⟩
end
theorem qtp {P:Pl}{a:Nat}(h:P.C.pick=some a)(b:Bk)(c:Nat):(P.lay b).live c=if c=a then some b else P.live c:=by
 unfold Pl.live;by_cases f:c<P.C.n
 ·rw[qhf h b c f,qhg h b c];by_cases e:c=a
  ·rw[if_pos e,if_pos e,if_pos e,if_neg (by omega)]
  ·rw[if_neg e,if_neg e,if_neg e]
 ·have A:=(Ct.Yd h).1;have e:c≠a:=by omega
  have u:P.C.get (c:Int)=0:=by unfold Ct.get;rw[if_neg (by omega)]
  have y:(P.lay b).C.get (c:Int)=0:=by unfold Ct.get;rw[qtc,if_neg (by omega)]
  rw[u,y,if_neg e,if_pos rfl,if_pos rfl]
section
variable {w:World}{p d:Nat}{S T:Nat->Prop}{P:Pl}
theorem q50 (H:Pool w p d S T P)(a x:Int)(u:P.C.get a=x) :
  Calls Tryz.prog 38 #[.pointer (some ⟨p,0,none⟩),.int .i64 a] w λe y=>e=.returned (.int .i64 x)/\w=y:=by
 obtain⟨m,cur,l,clock,v,Sc,L⟩:=H;have f:=q2c L.ct a x u;go_enter Tryz.func38,Tryz.ntmps38
 go_wp2_with fail
 refine f.mono ?_;rintro e w1 ⟨rfl,rfl⟩;go_wp2;go_ret;exact⟨rfl,rfl⟩
theorem qp2 (H:Pool w p d S T P)(n:Nat)(hn:P.C.free=n) :
  Calls Tryz.prog 23 #[.pointer (some ⟨p,0,none⟩)] w λe u=>e=.returned (.int .i64 (n:Int))/\w=u:=by
 obtain⟨m,cur,l,clock,v,Sc,L⟩:=H;have f:=qet L.ct n hn;go_enter Tryz.func23,Tryz.ntmps23
 go_wp2_with fail
 refine f.mono ?_;rintro e w1 ⟨rfl,rfl⟩;go_wp2;go_ret;exact⟨rfl,rfl⟩
end
section
attribute [local go_sem ↓] q1n q4s
end
end
section
open Go.ChangeMaps (setBlock)
theorem qdh {P:Pl}(h:P.C.pick=none)(b:Bk):P.lay b=P:=by unfold Pl.lay;rw[h]
theorem qtq {P:Pl}{b:Bk}(y:b.good)(h:∀c x,P.L c=some x->x.good):∀c x,(P.lay b).L c=some x->x.good:=λc x f=>by
 cases u:P.C.pick with
 |none=>rw[qdh u] at f;exact h c x f
 |some a=>
  rw[qhg u] at f;split at f
  ·injection f with f;exact f▸y
  ·exact h c x f
theorem qfd (C:Ct)(a:Int)(c:Nat):(C.Qq a).get (c:Int)=if (c:Int)=a then C.Ju a else C.get (c:Int):=by
 by_cases h0:C.get a=0
 ·have f:C.Qq a=C:=by unfold Ct.Qq;rw[if_pos h0]
  have u:C.Ju a=0:=by unfold Ct.Ju;rw[if_pos h0]
  rw[f,u];by_cases e:(c:Int)=a
  ·rw[if_pos e,e,h0]
  ·rw[if_neg e]
 ·have f:C.Qq a=C.put a.toNat (C.get a-1):=by unfold Ct.Qq;rw[if_neg h0]
  have u:C.Ju a=C.get a-1:=by unfold Ct.Ju;rw[if_neg h0]
  have B:0<=a/\a<(C.n:Int):=Classical.byContradiction λh=>h0 (by unfold Ct.get;rw[if_neg h])
  obtain⟨V,y⟩:∃V,C.get a-1=V:=⟨_,rfl⟩;rw[f,u,y];by_cases A:c<C.n
  ·have h1:(C.put a.toNat V).get (c:Int)=nm (C.put a.toNat V).now c:=by unfold Ct.get;rw[C.Zh,if_pos (by omega),Int.toNat_natCast]
   have h2:C.get (c:Int)=nm C.now c:=by unfold Ct.get;rw[if_pos (by omega),Int.toNat_natCast]
   rw[h1,h2,q5r _ _ _ _ A];by_cases e:c=a.toNat
   ·rw[if_pos e,if_pos (by omega)]
   ·rw[if_neg e,if_neg (by omega)]
  ·have h1:(C.put a.toNat V).get (c:Int)=0:=by unfold Ct.get;rw[C.Zh,if_neg (by omega)]
   have h2:C.get (c:Int)=0:=by unfold Ct.get;rw[if_neg (by omega)]
   rw[h1,h2,if_neg (by omega)]
theorem qbs {C:Ct}{a:Int}(h:C.Ju a≠0):C.get a≠0:=λh0=>h (by unfold Ct.Ju;rw[if_pos h0])
theorem qm1 (P:Pl)(a:Int)(c:Nat):Pl.live ⟨P.S,P.C.Qq a,P.L⟩ c=if (c:Int)=a/\P.C.Ju a=0 then none else P.live c:=by
 show (if (P.C.Qq a).get (c:Int)=0 then none else P.L c)=if (c:Int)=a/\P.C.Ju a=0 then none else (if P.C.get (c:Int)=0 then none else P.L c)
 rw[qfd];by_cases e:(c:Int)=a
 ·rw[if_pos e];by_cases h:P.C.Ju a=0
  ·rw[if_pos h,if_pos ⟨e,h⟩]
  ·rw[if_neg h,if_neg λh2=>h h2.2,e,if_neg (qbs h)]
 ·have f:¬((c:Int)=a/\P.C.Ju a=0):=λh2=>e h2.1
  rw[if_neg e,if_neg f]
theorem qtr {P:Pl}(h:P.ok)(a:Int):Pl.ok ⟨P.S,P.C.Qq a,P.L⟩:=
 ⟨Ct.O6 h.c a,Ct.O7 h.res a,h.may,by show P.S.Qa=((P.C.Qq a).n:Int);rw[Ct.E8];exact h.sec,h.gen,h.fine⟩
theorem qm2 {w:World}{p d:Nat}{S T:Nat->Prop}{P:Pl}(H:Pool w p d S T P)(a:Int) :
  Calls Tryz.prog 149 #[.pointer (some ⟨p,0,none⟩),.int .i64 a] w λe w'=>e=.returned (.tuple #[.int .i64 (P.C.Ju a),.int .i64 (P.C.Jm a)])/\Pool w' p d S T ⟨P.S,P.C.Qq a,P.L⟩/\Turn S w w':=by
 have X:=H.ok;obtain⟨m,cur,l,clock,v,Sc,L⟩:=H;have f:=qlg L.ct a;have y:=qm1 P a;have A:=qfd P.C a;have B:=qbs (C:=P.C) (a:=a);have I:=qtr X a;obtain⟨V,U⟩:∃V,P.C.Ju a=V:=⟨_,rfl⟩;obtain⟨E,Z⟩:∃E,P.C.Jm a=E:=⟨_,rfl⟩;rw[U] at f y B ⊢;simp only[U] at A;rw[Z] at f ⊢;have G:=Lib.hid f;have M:=Lib.hid y;have F:=Lib.hid I;have O:=Lib.hid A;have Q:=Lib.hid B;have a6:=L.F8;have a2:=L.mlt;clear f y I U Z A B;by_cases h0:V=0
 ·have nb:(V==0)=true:=by simpa using h0
  have J:=Lib.hid h0;clear h0;go_enter Tryz.func149,Tryz.ntmps149
  go_wp2_with fail
  refine G.out.mono ?_;rintro e w1 ⟨rfl,K,D⟩;have Y:=D.block p L.F8 λh=>(L.ne p h).1 rfl
  have W:=D.block m L.mlt λh=>(L.ne m h).2 rfl
  have a7:w1.cell? ⟨p,40,none⟩=some (.map (some m)):=(World.cell?_of_block (a:=⟨p,40,none⟩) Y).trans L.c40;have a1:=λu ty=>q47 (P:=Tryz.prog) (t:=123) (k:=3) (e:=48) L.ents Tryz.underlying123 Tryz.underlying3 (W.trans L.map) a u ty
  obtain⟨R1,R2⟩:=L.drop (P':=⟨P.S,P.C.Qq a,P.L⟩) (z:=a) D K (Ct.E8 _ _) rfl (λc=>by rw[M.out c];simp only[J.out,and_true]) L.good F.out;go_wp2;go_ret2;exact⟨rfl,R1,R2⟩
 ·have nb:(V==0)=false:=by simpa using h0
  have J:=Lib.hid h0;clear h0;go_enter Tryz.func149,Tryz.ntmps149
  go_wp2_with fail
  refine G.out.mono ?_;rintro e w1 ⟨rfl,K,D⟩;have R:=L.Qbi D K (Ct.E8 _ _) (λc=>?_) F.out
  ·go_wp2;go_ret2;exact⟨rfl,⟨m,cur,l,clock,v,Sc,R⟩,D.mono L.Yn.2.2⟩
  ·rw[O.out c];by_cases e:(c:Int)=a
   ·rw[if_pos e,e];exact⟨λh=>absurd h J.out,λh=>absurd h (Q.out J.out)⟩
   ·rw[if_neg e]
end
section
variable {w:World}{p d:Nat}{S T:Nat->Prop}{P:Pl}
theorem qts (H:Pool w p d S T P)(a:Int)(h0:P.C.get a=0) :
  Calls Tryz.prog 83 #[.pointer (some ⟨p,0,none⟩),.int .i64 a] w λe u=>e=.returned (.tuple #[.slice none 0 0,.int .i64 0,.int .i64 1])/\w=u:=by
 have f:=q50 H a 0 h0;go_enter Tryz.func83,Tryz.ntmps83
 go_wp2_with (first
  |(go_at_call 38;refine f.mono ?_;rintro e w1 ⟨rfl,rfl⟩)
  |fail)
 go_ret3;exact⟨rfl,rfl⟩
theorem qm3 (H:Pool w p d S T P)(a:Nat)(b:Bk)(u:P.live a=some b) :
  Calls Tryz.prog 83 #[.pointer (some ⟨p,0,none⟩),.int .i64 (a:Int)] w λe D=>∃A n c,e=.returned (.tuple #[.slice A n c,.int .i64 1,.int .i64 0])/\Sl D A n c (b.out a 0)/\Below w.1.size w D:=by
 obtain⟨x,B⟩:∃x,P.C.get (a:Int)=x:=⟨_,rfl⟩;have y:x≠0:=λh=>by unfold Pl.live at u;rw[if_pos (B.trans h)] at u;cases u
 have E:=q50 H (a:Int) x B;have J:(x==0)=false:=by simpa using y
 obtain⟨m,cur,l,clock,v,Sc,L⟩:=H;obtain⟨g,c,G,F,_⟩:=L.row a b u;have I:=L.c40;have f:=q46 L.ents Tryz.underlying123 Tryz.underlying3 (Tryz.zeroValue48 w) L.map (a:Int);rw[L.look a,u,G] at f;replace f:(Instr.lookup 123 (.map (some m)) (.int .i64 (a:Int)) true).run Tryz.prog w=.ok (.tuple #[.slice (some ⟨g,0,none⟩) 256 c,.bool true]) w:=f;clear B y u;go_enter Tryz.func83,Tryz.ntmps83
 go_wp2_with (first
  |(go_at_call 38;refine E.mono ?_;rintro e w1 ⟨rfl,rfl⟩)
  |fail)
 go_ret3;exact⟨_,_,_,rfl,F,Below.refl _ _⟩
theorem q9y {I:Nat->Prop}{D:DM}(F:Wu w d I D)(H:Pool w p d S T P)(a:Nat)(h0:P.C.get (a:Int)≠0)(B:P.live a=none) :
  Calls Tryz.prog 83 #[.pointer (some ⟨p,0,none⟩),.int .i64 (a:Int)] w λe E=>∃A n c,e=.returned (.tuple #[.slice A n c,.int .i64 5,.int .i64 (D.Ye (a:Int))])/\Sl E A n c (D.Yp (a:Int))/\Below w.1.size w E:=by
 obtain⟨x,y⟩:∃x,P.C.get (a:Int)=x:=⟨_,rfl⟩;rw[y] at h0;have K:=q50 H (a:Int) x y;have Q:(x==0)=false:=by simpa using h0
 obtain⟨m,cur,l,clock,v,Sc,L⟩:=H;have M:=L.c40;have R:=L.c0;have f:=q46 L.ents Tryz.underlying123 Tryz.underlying3 (Tryz.zeroValue48 w) L.map (a:Int);rw[L.look a,B] at f;replace f:(Instr.lookup 123 (.map (some m)) (.int .i64 (a:Int)) true).run Tryz.prog w=.ok (.tuple #[.slice none 0 0,.bool false]) w:=f;obtain⟨_,_,_,_,_,G⟩:=F;have u:=q8t G (a:Int);clear y h0 B;go_enter Tryz.func83,Tryz.ntmps83
 go_wp2_with (first
  |(go_at_call 38;refine K.mono ?_;rintro e w1 ⟨rfl,rfl⟩)
  |(go_at_call 138;refine u.mono ?_;rintro e w2 ⟨A,n,rfl,O,_,J,_⟩)
  |fail)
 go_ret3;exact⟨_,_,_,rfl,O,J⟩
end
section
theorem qp3 (n:Nat):Xq n=Ky n++Uu (Ct.zero n) (fmtS n):=by
 unfold Xq Rn fmtC Uu Ld;rw[Ct.Zd];show Ky n++(Fe (Qv n 1) (Kq (Ct.zero n) 1)++[.fl]++[.w 1 (swB (fmtS n) 1),.fl])=Ky n++(Fe (Qv n 1) (Kq (Ct.zero n) 1)++.fl::[.w 1 (swB (fmtS n) 1),.fl]);rw[List.append_assoc];rfl
theorem qxf (g x:Int)(w:World):(bdS #[(0,.int .i64 g),(1,.int .i64 x)]).run Tryz.prog w=.ok (.agg (sp0 g x 0).vs.toArray) w:=by
 show (Instr.build 120 #[(0,.int .i64 g),(1,.int .i64 x)]).run Tryz.prog w=_;kernel_rfl
structure P8 (w0 w:World)(p d q:Nat)(S0:Nat->Prop)(D:DM)(P:Pl):Prop where
 turn:Turn S0 w0 w
 Az:Wu w d (λk=>(S0 k\/w0.heap.size<=k)/\k<q) D
 pool:∀T:Nat->Prop,(∀k,q<=k->T k)->Pool w p d (λk=>q<=k) T P
 ge:w0.heap.size<=q/\q<=w.heap.size
attribute [local go_sem ↓] q8s
theorem qhl {w:World}{d:Nat}{Y:Nat->Prop}{D:DM}(L:Wu w d Y D)(Q:D.free)(hG:¬Y 1)(ht:Tab w){m:Nat}(b5:D.Y0 m)(hm:m<=700000) :
  Calls Tryz.prog 42 #[.pointer (some ⟨d,0,none⟩)] w λe w'=>∃p q,e=.returned (.tuple #[.pointer (some ⟨p,0,none⟩),.int .i64 0])/\P8 w w' p d q Y (D.Qz (Xq D.n)) (Pl.fresh D.n):=by
 have f:=L.Qa;unfold Qa at f;obtain⟨M,u,_⟩:=qj9 f.1 f.2 rfl Q;obtain⟨n,hn⟩:∃n,D.n=n:=⟨_,rfl⟩;rw[hn] at M u f ⊢;rw[qp3] at M;have G:D.Jh (Ky n)=0:=Classical.byContradiction λh=>h (by
  have:=(q5t (l':=Uu (Ct.zero n) (fmtS n)) h).1;rw[this] at M;exact M)
 have O:(D.Qz (Ky n)).Jh (Uu (Ct.zero n) (fmtS n))=0:=by rw[q3p,if_pos G] at M;exact M
 have I:D.Qz (Xq n)=(D.Qz (Ky n)).Qz (Uu (Ct.zero n) (fmtS n)):=by rw[qp3,q3q,if_pos G]
 have E:=qly L b5 (by omega);rw[hn] at E;have a8:D.Ut (Ky n)=true:=decide_eq_true G;rw[a8] at E;obtain⟨D1,H⟩:∃x,D.Qz (Ky n)=x:=⟨_,rfl⟩;obtain⟨D2,B⟩:∃x,D.Qz (Xq n)=x:=⟨_,rfl⟩;have b3:D1.n=n:=by rw[<-H,qxa];exact hn
 have R:D2.n=n:=by rw[<-B,qxa];exact hn
 have c9:D1.Y0 (m+3):=by rw[<-H];exact q6i _ b5
 rw[H] at E O I;rw[B] at u I ⊢;have b0:D1.Ut (Uu (Ct.zero n) (fmtS n))=true:=decide_eq_true O;have A:=qf5 u;rw[R] at A;have b1:(Gx D2.newest).gen<1099511627775:=by rw[A.2.1];show (1:Int)<1099511627775;omega
 have hP:Pl.Gn D2.newest n=Pl.fresh n:=by
  unfold Pl.Gn Pl.fresh;rw[A.2.1];have:Nv D2.newest n (fmtS n).gen=Ct.zero n:=by
   have h:=A.2.2;have e:(Ct.zero n).commit=Ct.zero n:=rfl;rw[e] at h;exact h
  rw[this]
 have J:=u.free.on;have c6:=Lib.hid A.1;have b8:=Lib.hid E;have b7:=Lib.hid b0;have b6:=Lib.hid I;have HP:=Lib.hid hP;have b9:=Lib.hid b1;have a1:=Lib.hid J;have Z:=Lib.hid b3;have c7:=Lib.hid R;have HG:=Lib.hid hG;have d0:=qxf 1 (n:Int);have d2:=ht.1;clear E b0 I hP b1 J b3 R A a8 O G M u hG hn H B;go_enter Tryz.func42,Tryz.ntmps42
 go_wp2_with fail
 refine b8.out.mono ?_;rintro e w1 ⟨rfl,X⟩;have t1:=ht.turned X.turn HG.out;have Ly:=X.Az.tight;obtain⟨_,_,_,_,_,a2⟩:=Ly;have y:=q8y a2;rw[Z.out] at y;have c8:=Lib.hid y;clear y a2;go_wp2_with (first
  |(go_at_call 90;refine c8.out.mono ?_;rintro e w2 ⟨rfl,rfl⟩)
  |fail)
 refine (qda n f.1 f.2 w1).mono ?_;rintro e w2 ⟨pc,rfl,C2,d1,b2⟩;have K:=X.Az.tight.below b2;have t2:=t1.below b2 t1.1;have z1:=X.turn.size;have z2:=b2.size;obtain⟨_,_,_,_,_,a6⟩:=K;have y:=q8y a6;have K:=X.Az.tight.below b2;rw[Z.out] at y;have a7:=Lib.hid y;clear y a6;go_wp2_with (first
  |(go_at_call 90;refine a7.out.mono ?_;rintro e w3 ⟨rfl,rfl⟩)
  |fail)
 have W:=qhi K C2 (λk F=>⟨by have:=F.2;omega,λh=>by have:=F.2;omega⟩) (λh=>h.1.elim HG.out λh2=>by omega) (fmtS n) (q4x f.1 f.2) (qjf (q4x f.1 f.2)) (by rw[Ct.Zd];rfl) t2 c9 (by omega);rw[b7.out,<-b6.out] at W;refine W.mono ?_;rintro e w3 ⟨rfl,L3⟩;clear W;have t3:=t2.turned L3.turn λh=>h.1.elim HG.out λh2=>by omega
 have z3:=L3.turn.size;go_wp2_with fail
 refine (qm0 L3.Az t3 b9.out).mono ?_;rw[a1.out,c7.out,HP.out,c6.out];rintro e w4 ⟨⟨_,p,rfl,U,hp⟩|⟨h,_⟩,b4⟩
 ·go_wp2;go_ret2;refine⟨p,w3.1.size,rfl,?_,?_,U,by omega,b4.size⟩
  ·have T2:Turn Y w w2:=X.turn.trans (Qx b2) λk F=>.inl F
   have T3:Turn Y w w3:=T2.trans L3.turn λk F=>F.1.elim .inl λh=>.inr h
   exact T3.trans (Qx b4) λk F=>.inl F
  ·exact ((L3.Az.mono (S':=λk=>(Y k\/w.1.size<=k)/\k<w3.1.size) λk F h=>⟨h.elim (λh=>h.1) λh=>.inr (by omega),F⟩).below b4)
 ·exact absurd rfl h
end
