/- The code's pool: Mount -/
import Derived.Test.YthkfkhejjmhomaaGreatDoorPoD
namespace Go.Proofs.YthkfkhejjmhomaaGreatDoor
open Go Go.RowKit Go.Proofs
set_option maxHeartbeats 8000000
set_option maxRecDepth 100000
section
def Wp (d:Nat)(S:Sp)(f u y A:Value)(m:Nat):List Value:=.pointer (some ⟨d,0,none⟩)::(S.vs++[f,u,y,A,.map (some m)])
theorem qpl (d:Nat)(S:Sp)(f u y A:Value)(m:Nat):(Wp d S f u y A m).length=41:=by unfold Wp;rw[List.length_cons,List.length_append,S.Ji];rfl
theorem qke (d:Nat)(S:Sp)(f u y A:Value)(m k:Nat):(Wp d S f u y A m)[36+k]?=[f,u,y,A,.map (some m)][k]?:=by
 unfold Wp;rw[show 36+k=(35+k)+1 by omega,List.getElem?_cons_succ,List.getElem?_append_right (by rw[S.Ji];omega),S.Ji,Nat.add_sub_cancel_left]
theorem qtu (d:Nat)(S:Sp)(u y A B:Value)(m:Nat):PH (Wp d S u y A B m).toArray d m S:=by
 refine⟨by rw[List.size_toArray,qpl],rfl,λj x f=>?_,?_⟩
 ·have D:=(List.getElem?_eq_some_iff.1 f).1;rw[List.getElem?_toArray,Nat.add_comm];unfold Wp;rw[List.getElem?_cons_succ,List.getElem?_append_left D];exact f
 ·rw[List.getElem?_toArray];exact qke d S u y A B m 4
def bdP (parts:Array (Nat × Value)):Sem Value:=Instr.build 125 parts
theorem qtv (parts:Array (Nat × Value)):Instr.build 125 parts=bdP parts:=rfl
def ldC (p:Value):Sem Value:=Instr.loadAt 122 p
theorem qtw (p:Value):Instr.loadAt 122 p=ldC p:=rfl
theorem qxa (d:Nat)(S:Sp)(u y A B:Value)(m:Nat)(w:World):(bdP #[(0,.pointer (some ⟨d,0,none⟩)),(1,.agg S.vs.toArray),(2,.agg #[u,y,A,B]),(3,.map (some m))]).run Tryz.prog w=.ok (.agg (Wp d S u y A B m).toArray) w:=by
 unfold Wp Sp.vs;obtain⟨a,b,c,E,e,f,g,h,D⟩:=qju S.len;rw[D];show (Instr.build 125 _).run Tryz.prog w=_;kernel_rfl
theorem Qcl {f:Nat->List UInt8}{n:Nat}:Em f true n=4:=by unfold Em;rw[if_pos rfl]
theorem qw5 {f:Nat->List UInt8}{n:Nat}(h:¬(Ez (f 0) (f 1)=0/\(Gp f).Qb=(n:Int))):Em f false n=27:=by unfold Em;rw[if_neg (by decide),if_pos h]
theorem Qcm {f:Nat->List UInt8}{n:Nat}(h:Ez (f 0) (f 1)=0/\(Gp f).Qb=(n:Int))(h2:¬((∀i,i<Ql n->Kq (f (Qw n (Gp f).gen+i)) (Qw n (Gp f).gen+i) (Gp f).gen=true)/\J9 (n:Int) (mtB f n (Gp f).gen)=0)):Em f false n=5:=by unfold Em;rw[if_neg (by decide),if_neg (λu=>u h),if_pos h2]
theorem Qck {f:Nat->List UInt8}{n:Nat}(h:Ez (f 0) (f 1)=0/\(Gp f).Qb=(n:Int))(h2:(∀i,i<Ql n->Kq (f (Qw n (Gp f).gen+i)) (Qw n (Gp f).gen+i) (Gp f).gen=true)/\J9 (n:Int) (mtB f n (Gp f).gen)=0):Em f false n=0:=by unfold Em;rw[if_neg (by decide),if_neg (λu=>u h),if_neg (λu=>u h2)]
theorem Qc2 (a b:List UInt8):Ez a b=0\/Ez a b=27:=by unfold Ez;split;exact .inr rfl;exact .inl rfl
def Pl.Gg (f:Nat->List UInt8)(n:Nat):Pl:=⟨Gp f,Oe f n (Gp f).gen,λ_=>none⟩
attribute [local go_sem ↓] q23 q6w qtv qtw
theorem qmn {w:World}{d:Nat}{S0:Nat->Prop}{D:DM}(L0:Vp w d S0 D)(ht:Tab w)(d4:(Gp D.newest).gen<1099511627775) :
  Calls Tryz.prog 91 #[.pointer (some ⟨d,0,none⟩)] w λe y=>
   ((Em D.newest D.off D.n=0/\∃p,e=.returned (.tuple #[.pointer (some ⟨p,0,none⟩),.int .i64 0])/\(∀T:Nat->Prop,(∀k,w.1.size<=k->T k)->Pool y p d (λk=>w.1.size<=k) T (Pl.Gg D.newest D.n))/\w.1.size<=p)\/
    (Em D.newest D.off D.n≠0/\e=.returned (.tuple #[.pointer none,.int .i64 (Em D.newest D.off D.n)])))/\Below w.1.size w y:=by
 have d7:=L0.Qb;unfold Qb at d7;have L:=L0.tight;have b2:=ht.1;obtain⟨_,_,_,_,_,Ly⟩:=L;have U:=qz3 Ly;have e8:=qdq;have e3:=Lib.hid d4;clear L0 d4
 cases H:D.off
 ·rw[H] at U;have L:Vp w d _ D:=⟨_,_,_,_,_,Ly⟩;obtain⟨x0,b5⟩:∃x,D.newest 0=x:=⟨_,rfl⟩;obtain⟨x1,b6⟩:∃x,D.newest 1=x:=⟨_,rfl⟩;have a8:=λy (hb:Below w.1.size w y)=>q9c (Ly.keep λk M _=>hb.block k M) 0
  have a9:=λy (hb:Below w.1.size w y)=>q9c (Ly.keep λk M _=>hb.block k M) 1
  have r0:=qf1 H (s:=0) (by omega);have r1:=qf1 H (s:=1) (by omega);rw[b5] at r0;rw[b6] at r1;have d9:D.Yl 0=x0:=r0.1;have e0:D.Yb 0=0:=r0.2;have e1:D.Yl 1=x1:=r1.1;have e2:D.Yb 1=0:=r1.2;simp only[d9,e0] at a8;simp only[e1,e2] at a9;obtain⟨S,hS⟩:∃S,snS x0 x1=S:=⟨_,rfl⟩;have d5:Gp D.newest=S:=by unfold Gp;rw[b5,b6,hS]
  have hE:Ez (D.newest 0) (D.newest 1)=Ez x0 x1:=by rw[b5,b6]
  have R:=Lib.hid d5;have HE:=Lib.hid hE;have HS:=Lib.hid hS;have a3:=Lib.hid a8;have a4:=Lib.hid a9;have d1:=Lib.hid H;clear a8 a9 r0 r1 d9 e0 e1 e2 d5 hE hS b5 b6 Ly H;rcases Qc2 x0 x1 with hE|hE
  ·have a7:S.may=true:=by rw[<-HS.out];exact qyt hE
   have b1:=hE;by_cases W:S.Qb=(D.n:Int)
   ·have d3:Ez (D.newest 0) (D.newest 1)=0/\(Gp D.newest).Qb=(D.n:Int):=⟨HE.out.trans hE,by rw[R.out];exact W⟩;have Q:=Lib.hid d3;have c9:=Lib.hid W;have a2:=Lib.hid a7;have e7:((D.n:Int)!=(D.n:Int))=false:=by simp
    clear d3 a7 W;go_enter Tryz.func91,Tryz.ntmps91
    go_wp2_with (first
     |(go_at_call 153;refine U.mono ?_;rintro e w1 ⟨rfl,rfl⟩)
     |(go_at_call 138;have hh:=K;refine (a4.out w2 K).mono ?_;rintro e w3 ⟨A3,n3,rfl,s3,_,b3,_⟩;have Y:=K.trans (b3.mono K.size))
     |(go_at_call 138;refine (a3.out w (Below.refl _ _)).mono ?_;rintro e w2 ⟨A2,n2,rfl,s2,_,K,_⟩)
     |(go_at_call 154;have hN:=q82 A2 n2 n2 x0 A3 n3 n3 x1 w3 (s2.below b3) s3 (ht.below Y b2);unfold q3i at hN;rw[HS.out,b1] at hN;refine hN.mono ?_;rintro e I ⟨rfl,b4⟩;have B4:=Y.trans (b4.mono Y.size))
     |(refine Ep rfl (.tmp 8) (.tmp 29) rfl I.1.size rfl S Sp.zero rfl (SB.new I Sp.zero _) ?_;intro X X6 a6 T6)
     |fail)
    have a5:Below I.1.size I X:=(Qn).trans (a6 _ (Nat.le_refl _));have O:=B4.trans (a5.mono B4.size);have L6:=L.below O;obtain⟨_,_,_,_,_,b0⟩:=L6;have q1:=X6.c1;rw[c9.out] at q1;have zX:I.1.size<X.1.size:=X6.lt;have g1:∀u:Grown X,u.to.cell? ⟨I.1.size,1,none⟩=some (.int .i64 (D.n:Int)):=Grown.cell q1 zX;have J:=Lib.hid (λu:Grown X=>q9n (b0.keep λk M _=>u.ok.block k M));refine Ua (by kernel_rfl) (by kernel_rfl) ?_;repeat (go_big_quiet_step (first
     |(go_at_call 90;exact Calls.J7 (J.out _))
     |fail))
    refine wpQuiet_nil ?_;rintro _ ⟨u,rfl⟩;have Z:=O.trans (u.ok.mono O.size);have X7:=X6.below u.ok zX;have L7:=L.below Z;have t7:=ht.below Z b2;have f0:=X7.ld;clear g1 J q1 b0;go_wp2_with fail
    refine (qsm L7 d1.out S a2.out c9.out t7).mono ?_;rintro e f ⟨⟨hy,pc,rfl,C8,f2⟩|⟨hn,E,d2,rfl⟩,b8⟩
    ·have H0:=Lib.hid (show Em D.newest false D.n=0 from Qck Q.out (by rw[R.out];exact hy));have d6:=qyu hy.2;have f3:=Z.size;have B8:=Z.trans (b8.mono Z.size);have X8:=X7.below b8 X7.lt;have zp:pc<f.1.size:=C8.lt;have z8:=b8.size;have hC:=C8;obtain⟨a0,e4,a1,e5,ty,cu,k1,⟨k2,k3,k4,k5⟩,k6,k7,k8,k9,f4⟩:=C8;obtain⟨A,b9⟩:∃x:Value,Value.slice (some ⟨a0,0,none⟩) (Oe D.newest D.n S.gen).n e4=x:=⟨_,rfl⟩;obtain⟨B,c6⟩:∃x:Value,Value.slice (some ⟨a1,0,none⟩) (Oe D.newest D.n S.gen).n e5=x:=⟨_,rfl⟩;obtain⟨F,c7⟩:∃x:Value,Value.int .i64 (Ql (Oe D.newest D.n S.gen).n:Int)=x:=⟨_,rfl⟩;obtain⟨G,c8⟩:∃x:Value,Value.int .i64 ((Oe D.newest D.n S.gen).first:Int)=x:=⟨_,rfl⟩;have hF:∀y,Below f.1.size f y->(ldS (.pointer (some ⟨I.1.size,0,none⟩))).run Tryz.prog y=.ok (.agg S.vs.toArray) y/\(ldC (.pointer (some ⟨pc,0,none⟩))).run Tryz.prog y=.ok (.agg #[A,B,F,G]) y/\Below f.1.size f y:=λy hb=>by
      refine⟨(X8.below hb X8.lt).ld,?_,hb⟩;have r:y.rangeAt pc 0 [A,B,F,G]:=λj v hv=>by
       rw[Nat.zero_add];refine q3d ((hb.block pc zp).trans k1) ?_;rw[b9] at k2;rw[c6] at k3;rw[c7] at k4;rw[c8] at k5;match j with
       |0=>rw[k2];exact hv
       |1=>exact k3.trans hv
       |2=>exact k4.trans hv
       |3=>exact k5.trans hv
       |j+4=>simp at hv
      exact run_loadAt_mid y pc 0 122 _ _ r Tryz.underlying122 rfl (by kernel_rfl)
     have BD:Below f.1.size f f.drew:=(Below.refl _ _).drew;have f1:=@run_makeMap Tryz.prog;have e9:=λm y=>qxa d S A B F G m y
     go_wp2_with fail
     go_region_held3 (λy=>(ldS (.pointer (some ⟨I.1.size,0,none⟩))).run Tryz.prog y=.ok (.agg S.vs.toArray) y/\(ldC (.pointer (some ⟨pc,0,none⟩))).run Tryz.prog y=.ok (.agg #[A,B,F,G]) y/\Below f.1.size f y)
      (first|assumption|exact hF _ BD|exact hF _ (BD.alloc (Nat.le_refl _) _)|exact hF _ (((Qn).alloc (by simp) _).drew))
      (first
       |fail)
     have B9:Below f.1.size f ((f.alloc (.map #[] 0)).alloc (.cells (Wp d S A B F G f.1.size).toArray 125)).drew:=((Qn).alloc (by simp) _).drew;have b7:((f.alloc (.map #[] 0)).alloc (.cells (Wp d S A B F G f.1.size).toArray 125)).drew.1[f.1.size]?=some (.map #[] 0):=by
      show ((f.alloc (.map #[] 0)).alloc (.cells (Wp d S A B F G f.1.size).toArray 125)).1[f.1.size]?=_;rw[heap_alloc_old _ _ (by simp),heap_alloc_new]
     have d0:((f.alloc (.map #[] 0)).alloc (.cells (Wp d S A B F G f.1.size).toArray 125)).drew.1[f.1.size+1]?=some (.cells (Wp d S A B F G f.1.size).toArray 125 (0,0)):=by
      show ((f.alloc (.map #[] 0)).alloc (.cells (Wp d S A B F G f.1.size).toArray 125)).1[f.1.size+1]?=_;have e:f.1.size+1=(f.alloc (.map #[] 0)).1.size:=by simp
      rw[e,heap_alloc_new]
     generalize ((f.alloc (.map #[] 0)).alloc (.cells (Wp d S A B F G f.1.size).toArray 125)).drew=w9 at B9 b7 d0 ⊢;go_wp2;go_ret2;rw[H0.out];have BB:=B8.trans (B9.mono B8.size);refine⟨.inl ⟨rfl,f.1.size+1,rfl,λT hT=>?_,by omega⟩,BB⟩;have e6:(Oe D.newest D.n S.gen).n=D.n:=qi9 _ _;have C9:Yu w9 (f.1.size+1) 36 (λk=>w.1.size<=k/\k<f.1.size) (Oe D.newest D.n S.gen):=by
      have hS:=(hC.mono (S':=λk=>w.1.size<=k) λk M=>by omega).shrink;refine Yu.around (p:=pc) (o:=0) hS k1 d0 (λj hj=>?_) (λk M=>by omega) λk M _=>B9.block k M
      rw[List.getElem?_toArray,qke];match j,hj with
      |0,_=>exact b9.symm▸k2.symm
      |1,_=>exact c6.symm▸k3.symm
      |2,_=>exact c7.symm▸k4.symm
      |3,_=>exact c8.symm▸k5.symm
     have hP:Pl.Gg D.newest D.n=⟨S,Oe D.newest D.n S.gen,λ_=>none⟩:=by unfold Pl.Gg;rw[R.out]
     rw[hP];refine⟨f.1.size,_,[],0,λ_=>undef,_,⟨d0,qtu d S _ _ _ _ _,C9,b7,⟨λe he=>(by cases he),List.nodup_nil,List.nodup_nil,λe he=>(by cases he)⟩,λa=>?_,λe he=>(by cases he),λa b h=>?_,λa b h=>(by cases h),⟨by omega,by omega,λk M=>M.1⟩,λk M=>by omega,hT,⟨hC.ok,d6,a2.out,by rw[e6];exact c9.out,by rw[<-R.out];exact e3.out,λa b h=>(by cases h)⟩,qkd a2.out⟩⟩
     ·unfold Pl.live;split<;>rfl
     ·unfold Pl.live at h;split at h<;>cases h
    ·have H5:=Lib.hid (show Em D.newest false D.n=5 from Qcm Q.out (by rw[R.out];exact hn));have nb:(E != 0)=true:=by simpa using d2
     clear hn d2;go_wp2;go_ret2;rw[H5.out];exact⟨.inr ⟨by omega,rfl⟩,Z.trans (b8.mono Z.size)⟩
   ·have Q:=Lib.hid (show Em D.newest false D.n=27 from qw5 (λh=>W (by rw[<-R.out];exact h.2)));have e7:(S.Qb != (D.n:Int))=true:=by simpa using W
    clear a7 W;go_enter Tryz.func91,Tryz.ntmps91
    go_wp2_with (first
     |(go_at_call 153;refine U.mono ?_;rintro e w1 ⟨rfl,rfl⟩)
     |(go_at_call 138;have hh:=K;refine (a4.out w2 K).mono ?_;rintro e w3 ⟨A3,n3,rfl,s3,_,b3,_⟩;have Y:=K.trans (b3.mono K.size))
     |(go_at_call 138;refine (a3.out w (Below.refl _ _)).mono ?_;rintro e w2 ⟨A2,n2,rfl,s2,_,K,_⟩)
     |(go_at_call 154;have hN:=q82 A2 n2 n2 x0 A3 n3 n3 x1 w3 (s2.below b3) s3 (ht.below Y b2);unfold q3i at hN;rw[HS.out,b1] at hN;refine hN.mono ?_;rintro e I ⟨rfl,b4⟩;have B4:=Y.trans (b4.mono Y.size))
     |(refine Ep rfl (.tmp 8) (.tmp 29) rfl I.1.size rfl S Sp.zero rfl (SB.new I Sp.zero _) ?_;intro X X6 a6 T6)
     |fail)
    have a5:Below I.1.size I X:=(Qn).trans (a6 _ (Nat.le_refl _));have O:=B4.trans (a5.mono B4.size);have L6:=L.below O;obtain⟨_,_,_,_,_,b0⟩:=L6;have zX:I.1.size<X.1.size:=X6.lt;have g1:∀u:Grown X,u.to.cell? ⟨I.1.size,1,none⟩=some (.int .i64 S.Qb):=Grown.cell X6.c1 zX;have J:=Lib.hid (λu:Grown X=>q9n (b0.keep λk M _=>u.ok.block k M));refine Ua (by kernel_rfl) (by kernel_rfl) ?_;repeat (go_big_quiet_step (first
     |(go_at_call 90;exact Calls.J7 (J.out _))
     |fail))
    refine wpQuiet_nil ?_;rintro _ ⟨u,rfl⟩;have Z:=O.trans (u.ok.mono O.size);go_wp2;go_ret2;rw[Q.out];exact⟨.inr ⟨by omega,rfl⟩,Z⟩
  ·have b1:=hE;have Q:=Lib.hid (show Em D.newest false D.n=27 from qw5 (λh=>by have:=h.1;rw[HE.out,hE] at this;cases this));go_enter Tryz.func91,Tryz.ntmps91
   go_wp2_with (first
     |(go_at_call 153;refine U.mono ?_;rintro e w1 ⟨rfl,rfl⟩)
     |(go_at_call 138;have hh:=K;refine (a4.out w2 K).mono ?_;rintro e w3 ⟨A3,n3,rfl,s3,_,b3,_⟩;have Y:=K.trans (b3.mono K.size))
     |(go_at_call 138;refine (a3.out w (Below.refl _ _)).mono ?_;rintro e w2 ⟨A2,n2,rfl,s2,_,K,_⟩)
     |(go_at_call 154;have hN:=q82 A2 n2 n2 x0 A3 n3 n3 x1 w3 (s2.below b3) s3 (ht.below Y b2);unfold q3i at hN;rw[HS.out,b1] at hN;refine hN.mono ?_;rintro e I ⟨rfl,b4⟩;have B4:=Y.trans (b4.mono Y.size))
     |(refine Ep rfl (.tmp 8) (.tmp 29) rfl I.1.size rfl S Sp.zero rfl (SB.new I Sp.zero _) ?_;intro X X6 a6 T6)
     |fail)
   have a5:Below I.1.size I X:=(Qn).trans (a6 _ (Nat.le_refl _));have O:=B4.trans (a5.mono B4.size);go_quiet (fail)
   generalize d8:World.drewN X _=w7;have Z:Below w.1.size w w7:=by rw[<-d8];exact⟨O.os,O.tape,O.output,O.size,O.block⟩
   clear d8;go_wp2;go_ret2;rw[Q.out];exact⟨.inr ⟨by omega,rfl⟩,Z⟩
 ·rw[H] at U;have H4:=Lib.hid (show Em D.newest true D.n=4 from Qcl);go_enter Tryz.func91,Tryz.ntmps91
  go_wp2_with (first
   |(go_at_call 153;refine U.mono ?_;rintro e w1 ⟨rfl,rfl⟩)
   |fail)
  go_ret2;rw[H4.out];exact⟨.inr ⟨by omega,rfl⟩,Below.refl _ _⟩
end
section
open Go.ChangeMaps (setBlock)
section
variable {P:Program}{w:World}{t k e b clock:Nat}{l:List MapEntry}
theorem q4o (E:Un l clock)(B:P.underlying t=some (.map k e))(u:P.underlying k=some (.int .i64)){z:Value}(G:(zeroValue e).run P w=.ok z w)(y:w.1[b]?=some (.map l.toArray clock))(s:Int) :
  (Instr.lookup t (.map (some b)) (.int .i64 s) true).run P w=.ok (.tuple #[(Zg s l).getD z,.bool (Zg s l).isSome]) w:=by
 have A:=λD=>MapKept.run_checkKey (P:=P) (w:=w) u (k:=.int .i64 s) rfl D 9999
 rcases qah s l 0 E.key with⟨h1,h2,_⟩|⟨j,x,h1,_,_,F,_⟩
 ·have f:=MapKept.run_findKey (P:=P) (w:=w) u h1;simp[Instr.lookup,run_underlying B,MapKept.run_getObj_map y,A,f,G,h2]
 ·have f:=MapKept.run_findKey (P:=P) (w:=w) u h1;simp[Instr.lookup,run_underlying B,MapKept.run_getObj_map y,A,f,F]
end
section
variable {w w1 w2:World}{p d m clock:Nat}{cur:Array Value}{l:List MapEntry}{v:Nat->Value}{Sc S T:Nat->Prop}{P P':Pl}
theorem PL.store (L:PL w p d m cur l clock v Sc S T P)(t:Turn Sc w w1)(C1:Yu w1 p 36 Sc P'.C)(b12:Below w1.1.size w1 w2)(hn:P'.C.n=P.C.n)(hS:P'.S=P.S){a:Nat}(ha:a<P.C.n){b:Bk}(hlive:∀c,P'.live c=if c=a then some b else P.live c)
  (hgood:∀c x,P'.L c=some x->x.good) (hok:P'.ok) {q:Nat} (hx:Sl w2 (some ⟨q,0,none⟩) 256 256 (b.out a 0)) (hq:¬T q) :
  Pool (setBlock w2 m (.map (Zv (a:Int) (.slice (some ⟨q,0,none⟩) 256 256) clock l).toArray (if Zg (a:Int) l=none then clock+1 else clock))) p d S T P'/\
   Turn S w (setBlock w2 m (.map (Zv (a:Int) (.slice (some ⟨q,0,none⟩) 256 256) clock l).toArray (if Zg (a:Int) l=none then clock+1 else clock))):=by
 have Q:=t.block m L.mlt λh=>(L.ne m h).2 rfl
 have R:=L.mlt;have U:=t.size;have W:=b12.size;have J:Turn S w w2:=(t.mono L.Yj.2.2).then (Qu b12);have u:Turn (λk=>k=m) w2 (setBlock w2 m (.map (Zv (a:Int) (.slice (some ⟨q,0,none⟩) 256 256) clock l).toArray (if Zg (a:Int) l=none then clock+1 else clock))):=Rj _ rfl;have y:(setBlock w2 m (.map (Zv (a:Int) (.slice (some ⟨q,0,none⟩) 256 256) clock l).toArray (if Zg (a:Int) l=none then clock+1 else clock))).1[m]?=some (.map (Zv (a:Int) (.slice (some ⟨q,0,none⟩) 256 256) clock l).toArray (if Zg (a:Int) l=none then clock+1 else clock)):=q1s (by omega);generalize setBlock w2 m (.map (Zv (a:Int) (.slice (some ⟨q,0,none⟩) 256 256) clock l).toArray (if Zg (a:Int) l=none then clock+1 else clock))=X at u y ⊢;have f:∀k,k<w.1.size->k≠m->¬Sc k->X.1[k]?=w.1[k]?:=λk B E F=>(u.block k (by omega) E).trans ((b12.block k (by omega)).trans (t.block k B F))
 have G:=f p L.Iq L.p_m (λh=>(L.ne p h).1 rfl);refine⟨⟨m,cur,Zv (a:Int) (.slice (some ⟨q,0,none⟩) 256 256) clock l,(if Zg (a:Int) l=none then clock+1 else clock),upd v a (.slice (some ⟨q,0,none⟩) 256 256),Sc,G.trans L.me,hS▸L.ph,?_,y,L.ents.put (a:Int) _,λc=>?_,λe O=>?_,λc x h=>?_,hgood,L.Yj,L.ne,L.sub,hok,hS▸L.F8⟩,J.trans u λk B=>by rw[B];exact .inl L.Yj.2.1⟩
 ·have I:=C1.below b12;exact I.keep (u.block p (by have:=L.Iq;omega) L.p_m) λk B H=>u.block k B λe=>(L.ne k H).2 e
 ·rw[q9f,hlive c];by_cases e:c=a
  ·subst e;rw[if_pos rfl,if_pos rfl,q0n];rfl
  ·rw[if_neg (by omega),if_neg e,Ag _ _ e];exact L.look c
 ·rw[hn];rcases qag O with h|⟨h,_⟩
  ·exact L.keys e h
  ·exact⟨a,ha,by unfold kI;rw[h]⟩
 ·rw[hlive c] at h;by_cases e:c=a
  ·rw[if_pos e] at h;injection h with h;subst h e;rw[q0n];refine⟨q,256,rfl,?_,hq⟩;exact PL.keep.stay_slice hx u.size λA=>u.block q A λe=>hq (by rw[e];exact L.sub m L.Yj.2.1)
  ·rw[if_neg e] at h;rw[Ag _ _ e];obtain⟨g,K,M,H,A⟩:=L.row c x h;exact⟨g,K,M,PL.keep.stay_slice H (by have:=u.size;omega) λD=>f g D (λe=>A (by rw[e];exact L.sub m L.Yj.2.1)) λh=>A (L.sub g (L.Yj.2.2 g h)),A⟩
theorem PL.drop (L:PL w p d m cur l clock v Sc S T P)(t:Turn Sc w w1)(C1:Yu w1 p 36 Sc P'.C)(hn:P'.C.n=P.C.n)(hS:P'.S=P.S){z:Int}(hlive:∀c:Nat,P'.live c=if (c:Int)=z then none else P.live c)
  (hgood:∀c x,P'.L c=some x->x.good) (hok:P'.ok) :
  Pool (setBlock w1 m (.map (Xp z l).toArray clock)) p d S T P'/\Turn S w (setBlock w1 m (.map (Xp z l).toArray clock)):=by
 have M:=L.mlt;have O:=t.size;have u:Turn (λk=>k=m) w1 (setBlock w1 m (.map (Xp z l).toArray clock)):=Rj _ rfl;have y:(setBlock w1 m (.map (Xp z l).toArray clock)).1[m]?=some (.map (Xp z l).toArray clock):=q1s (by omega);generalize setBlock w1 m (.map (Xp z l).toArray clock)=Q at u y ⊢;have f:∀k,k<w.1.size->k≠m->¬Sc k->Q.1[k]?=w.1[k]?:=λk A E F=>(u.block k (by omega) E).trans (t.block k A F)
 have G:=f p L.Iq L.p_m (λh=>(L.ne p h).1 rfl);refine⟨⟨m,cur,Xp z l,clock,v,Sc,G.trans L.me,hS▸L.ph,?_,y,L.ents.del z,λc=>?_,λe K=>?_,λc x h=>?_,hgood,L.Yj,L.ne,L.sub,hok,hS▸L.F8⟩,(t.mono L.Yj.2.2).trans u λk A=>by rw[A];exact .inl L.Yj.2.1⟩
 ·exact C1.keep (u.block p (by have:=L.Iq;omega) L.p_m) λk A H=>u.block k A λe=>(L.ne k H).2 e
 ·rw[q9g _ L.ents.one,hlive c];by_cases e:(c:Int)=z
  ·rw[if_pos e,if_pos e];rfl
  ·rw[if_neg e,if_neg e];exact L.look c
 ·rw[hn];exact L.keys e (q6c K)
 ·rw[hlive c] at h;split at h
  ·cases h
  ·obtain⟨g,I,J,H,B⟩:=L.row c x h;exact⟨g,I,J,PL.keep.stay_slice H (by have:=u.size;omega) λD=>f g D (λe=>B (by rw[e];exact L.sub m L.Yj.2.1)) λh=>B (L.sub g (L.Yj.2.2 g h)),B⟩
end
theorem qkf {P:Pl}{a:Nat}(h:P.C.pick=some a)(b:Bk)(c:Nat):(P.lay b).live c=if c=a then some b else P.live c:=by
 unfold Pl.live;by_cases f:c<P.C.n
 ·rw[qdx h b c f,qfq h b c];by_cases e:c=a
  ·rw[if_pos e,if_pos e,if_pos e,if_neg (by omega)]
  ·rw[if_neg e,if_neg e,if_neg e]
 ·have A:=(Ct.J4 h).1;have e:c≠a:=by omega
  have u:P.C.get (c:Int)=0:=by unfold Ct.get;rw[if_neg (by omega)]
  have y:(P.lay b).C.get (c:Int)=0:=by unfold Ct.get;rw[qme,if_neg (by omega)]
  rw[u,y,if_neg e,if_pos rfl,if_pos rfl]
section
variable {w:World}{p d:Nat}{S T:Nat->Prop}{P:Pl}
theorem q1l (H:Pool w p d S T P)(a x:Int)(u:P.C.get a=x) :
  Calls Tryz.prog 38 #[.pointer (some ⟨p,0,none⟩),.int .i64 a] w λe y=>e=.returned (.int .i64 x)/\w=y:=by
 obtain⟨m,cur,l,clock,v,Sc,L⟩:=H;have f:=q2m L.ct a x u;go_enter Tryz.func38,Tryz.ntmps38
 go_wp2_with fail
 refine f.mono ?_;rintro e w1 ⟨rfl,rfl⟩;go_wp2;go_ret;exact⟨rfl,rfl⟩
theorem qpm (H:Pool w p d S T P)(n:Nat)(hn:P.C.free=n) :
  Calls Tryz.prog 23 #[.pointer (some ⟨p,0,none⟩)] w λe u=>e=.returned (.int .i64 (n:Int))/\w=u:=by
 obtain⟨m,cur,l,clock,v,Sc,L⟩:=H;have f:=qff L.ct n hn;go_enter Tryz.func23,Tryz.ntmps23
 go_wp2_with fail
 refine f.mono ?_;rintro e w1 ⟨rfl,rfl⟩;go_wp2;go_ret;exact⟨rfl,rfl⟩
end
section
attribute [local go_sem ↓] q23 q6w
end
end
section
open Go.ChangeMaps (setBlock)
def Pl.Gy (k:Int)(n:Nat):Bool:=match Uh k with|some m=>decide (n<=m)|none=>false
def Pl.Dp (P:Pl)(k:Int)(n:Nat):Int:=if Pl.Gy k n=true then P.C.Kv else 0
def Pl.Zv (P:Pl)(k:Int)(n:Nat):Int:=if (Uh k).isSome=true then if Pl.Gy k n=true then P.C.Ku else 7 else 1
def Pl.put (P:Pl)(k:Int)(l:List UInt8):Pl:=if Pl.Gy k l.length=true then P.lay (.bytes k l) else P
theorem q9h {P:Pl}(h:P.C.pick=none)(b:Bk):P.lay b=P:=by unfold Pl.lay;rw[h]
theorem qkg {P:Pl}{b:Bk}(y:b.good)(h:∀c x,P.L c=some x->x.good):∀c x,(P.lay b).L c=some x->x.good:=λc x f=>by
 cases u:P.C.pick with
 |none=>rw[q9h u] at f;exact h c x f
 |some a=>
  rw[qfq u] at f;split at f
  ·injection f with f;exact f▸y
  ·exact h c x f
theorem qtx {w w':World}{S:Nat->Prop}{A:Option Addr}{n c:Nat}{l:List UInt8}(h:Sl w A n c l)(X:Turn S w w')(y:0<n->∀f,A=some f->¬S f.block):Sl w' A n c l:=by
 by_cases hn:0<n
 ·exact q6y h X (y hn)
 ·have B:l=[]:=List.eq_nil_of_length_eq_zero (by rw[h.len];omega);subst B;exact⟨h.1,h.2.1,h.2.2.1,λj u D=>by simp at D⟩
theorem qe0 {w:World}{p d:Nat}{S T:Nat->Prop}{P:Pl}(H:Pool w p d S T P)(hT:∀k,T k->k<w.1.size)(hG:¬T 1)(k:Int)(A:Option Addr)(n c:Nat)(x:List UInt8)(hs:Sl w A n c x)(hA:0<n->∀ad,A=some ad->¬S ad.block)(ht:Tab w) :
  Calls Tryz.prog 73 #[.pointer (some ⟨p,0,none⟩),.int .i64 k,.slice A n c] w λe D=>e=.returned (.tuple #[.int .i64 (P.Dp k x.length),.int .i64 (P.Zv k x.length)])/\Pool D p d S T (P.put k x)/\Turn S w D:=by
 have y:=hs.len;have a0:=H.ok;have u:=qfv k;unfold Qaf at u
 cases E:Uh k with
 |none=>
  rw[E] at u;have B:Pl.Gy k x.length=false:=by unfold Pl.Gy;rw[E]
  have U:=Lib.hid (show P.Dp k x.length=0 by unfold Pl.Dp;rw[B];rfl);have R:=Lib.hid (show P.Zv k x.length=1 by unfold Pl.Zv;rw[E];rfl);have Z:=Lib.hid (show P.put k x=P by unfold Pl.put;rw[B];rfl);clear B E;go_enter Tryz.func73,Tryz.ntmps73
  go_wp2_with (first
   |(go_at_call 120;refine (u w).mono ?_;rintro e w1 ⟨rfl,rfl⟩)
   |fail)
  go_ret2;rw[U.out,R.out,Z.out];exact⟨rfl,H,Turn.refl _ _⟩
 |some most=>
  rw[E] at u;obtain⟨b0,d0⟩:=qc9 E;by_cases b2:n<=most
  ·have B:Pl.Gy k x.length=true:=by unfold Pl.Gy;rw[E,y];exact decide_eq_true b2
   have U:=Lib.hid (show P.Dp k x.length=P.C.Kv by unfold Pl.Dp;rw[B];rfl);have R:=Lib.hid (show P.Zv k x.length=P.C.Ku by unfold Pl.Zv;rw[E,B];rfl);have Z:=Lib.hid (show P.put k x=P.lay (.bytes k x) by unfold Pl.put;rw[B];rfl);have e1:¬(most:Int)<(n:Int):=by omega
   have O:(Bk.bytes k x).good:=qca b0 (by omega);obtain⟨m,cur,l,clock,v,Sc,L⟩:=H;have f:=q7y L.ct;clear B E
   cases Q:P.C.pick with
   |none=>
    obtain⟨X,Y,a3⟩:=Ct.Y7 Q;rw[X,Y,a3] at f;rw[X] at R;rw[Y] at U;rw[q9h Q] at Z;have f:=Lib.hid f;clear X Y a3 Q;go_enter Tryz.func73,Tryz.ntmps73
    go_wp2_with (first
     |(go_at_call 120;refine (u w).mono ?_;rintro e w1 ⟨rfl,rfl⟩)
     |(go_at_call 121;refine f.out.mono ?_;rintro e w2 ⟨rfl,C2,M⟩)
     |fail)
    go_ret2;rw[U.out,R.out,Z.out];exact⟨rfl,⟨m,cur,l,clock,v,Sc,L.Qa1 M C2 rfl (λ_=>Iff.rfl) a0⟩,M.mono L.Yj.2.2⟩
   |some a=>
    obtain⟨X,Y,a3⟩:=Ct.Jh Q;have c6:=(Ct.J4 Q).1;have I:P.C.get (a:Int)=0:=by unfold Ct.get;rw[if_pos (by omega),Int.toNat_natCast];exact (Ct.J4 Q).2.2.1
    have J:Zg (a:Int) l=none:=by rw[L.look a];unfold Pl.live;rw[if_pos I];rfl
    have F:=Lib.hid J;have d3:=a0.c.1;have hS:=qtq (P:=P) (.bytes k x);have hn:=qme (P:=P) (.bytes k x);have W:=qk8 a0 O.fine;have a7:P.C.alloc=(P.lay (.bytes k x)).C:=by rw[q2n Q]
    have b1:=qkf Q (.bytes k x);have a9:=qkg O L.good;rw[X,Y,a7] at f;rw[X] at R;rw[Y] at U;have a4:(Na k a x.length 0).ok=true:=O.hd a 0 (by omega) q2a;have a8:x.length<=236:=O.body;have b3:Xb (Na k a x.length 0) x=0:=by unfold Xb;rw[if_pos a4,if_pos a8]
    have b4:Xg (Na k a x.length 0) x=(Bk.bytes k x).out a 0:=by unfold Xg;rw[if_pos a4,if_pos a8];rfl
    have b7:=Lib.hid b3;have b8:=Lib.hid b4;have f:=Lib.hid f;have b6:=Lib.hid b1;have b5:=Lib.hid a9;have a6:=Lib.hid W;have HS:=Lib.hid hS;have Hn:=Lib.hid hn;have a5:=Lib.hid y;clear X Y a3 Q a7 hS hn W b1 a9 a4 b3 b4 y J I;go_enter Tryz.func73,Tryz.ntmps73
    go_wp2_with (first
     |(go_at_call 120;refine (u w).mono ?_;rintro e w1 ⟨rfl,rfl⟩)
     |(go_at_call 121;refine f.out.mono ?_;rintro e w2 ⟨rfl,C2,M⟩)
     |fail)
    have d1:=M.block p L.Iq λh=>(L.ne p h).1 rfl
    have c9:=M.block m L.mlt λh=>(L.ne m h).2 rfl
    have z2:=M.size;have d5:=L.Iq;have d4:=L.mlt;have d2:w2.cell? ⟨p,40,none⟩=some (.map (some m)):=(World.cell?_of_block (a:=⟨p,40,none⟩) d1).trans L.c40;have s2:Sl w2 A n c x:=qtx hs M λhn ad e h=>hA hn ad e (L.Yj.2.2 _ h)
    have t2:Tab w2:=ht.turned M λh=>hG (L.sub _ (L.Yj.2.2 _ h))
    have hF:∀D,Below w2.1.size w2 D->D.cell? ⟨p,40,none⟩=some (.map (some m))/\Below w2.1.size w2 D:=λD hb=>⟨(hb.cell (p:=⟨p,40,none⟩) (by show p<_;omega)).trans d2,hb⟩
    have BD:Below w2.1.size w2 w2.drew:=(Below.refl _ _).drew;have b9:=Lib.hid (λ(D:World) (hb:Below w2.1.size w2 D) (v':Value)=>(congrArg (λz:Nat=>Result.ok () (setBlock D m (.map (Zv (a:Int) v' clock l).toArray z))) (if_pos F.out)).subst (motive:=λr=>(Instr.mapUpdate 123 (.map (some m)) (.int .i64 (a:Int)) v').run Tryz.prog D=r) <| q1h (P:=Tryz.prog) (t:=123) (k:=3) (e:=48) L.ents Tryz.underlying123 Tryz.underlying3 ((hb.block m (by omega)).trans (c9.trans L.map)) (a:Int) v');go_region_held3 (λD=>D.cell? ⟨p,40,none⟩=some (.map (some m)))
     (first|assumption|exact (hF _ BD).1|exact (hF _ G).1|exact (World.cell?_of_block (a:=⟨p,40,none⟩) ((Rj (S:=λk=>k=m) _ rfl).block p (by have:=Below.size G;omega) L.p_m)).trans (hF _ G).1)
     (first
      |(go_at_call 122;refine (q5t (Na k a n 0) A n c x _ s2.drew (t2.below BD t2.1)).mono ?_;rw[<-a5.out,b7.out,b8.out];rintro e w3 ⟨A3,n3,c3,rfl,K,c8,c7⟩;have G:Below w2.1.size w2 w3:=BD.trans c7;have d6:=b9.out w3 G)
      |fail)
    obtain⟨q,rfl,rfl,rfl⟩:=c8 (by first|trivial|rfl);have hq:=(K.block ⟨q,0,none⟩ rfl).1;obtain⟨R1,R2⟩:=L.store (P':=P.lay (.bytes k x)) (b:=.bytes k x) M C2 G Hn.out HS.out c6 b6.out b5.out a6.out K.sl (λh=>by have h1:=hT q h;have h2:w2.drew.1.size=w2.1.size:=rfl;have h3:w2.drew.1.size<=q:=hq;omega);rw[if_pos F.out] at R1 R2;go_wp2;go_ret2;rw[U.out,R.out,Z.out];exact⟨rfl,R1,R2⟩
  ·have B:Pl.Gy k x.length=false:=by unfold Pl.Gy;rw[E,y];exact decide_eq_false b2
   have U:=Lib.hid (show P.Dp k x.length=0 by unfold Pl.Dp;rw[B];rfl);have R:=Lib.hid (show P.Zv k x.length=7 by unfold Pl.Zv;rw[E,B];rfl);have Z:=Lib.hid (show P.put k x=P by unfold Pl.put;rw[B];rfl);have e1:(most:Int)<(n:Int):=by omega
   clear B E;go_enter Tryz.func73,Tryz.ntmps73
   go_wp2_with (first
    |(go_at_call 120;refine (u w).mono ?_;rintro e w1 ⟨rfl,rfl⟩)
    |fail)
   go_ret2;rw[U.out,R.out,Z.out];exact⟨rfl,H,Turn.refl _ _⟩
theorem qfy (C:Ct)(a:Int)(c:Nat):(C.Qj a).get (c:Int)=if (c:Int)=a then C.Jw a else C.get (c:Int):=by
 by_cases h0:C.get a=0
 ·have f:C.Qj a=C:=by unfold Ct.Qj;rw[if_pos h0]
  have u:C.Jw a=0:=by unfold Ct.Jw;rw[if_pos h0]
  rw[f,u];by_cases e:(c:Int)=a
  ·rw[if_pos e,e,h0]
  ·rw[if_neg e]
 ·have f:C.Qj a=C.put a.toNat (C.get a-1):=by unfold Ct.Qj;rw[if_neg h0]
  have u:C.Jw a=C.get a-1:=by unfold Ct.Jw;rw[if_neg h0]
  have B:0<=a/\a<(C.n:Int):=Classical.byContradiction λh=>h0 (by unfold Ct.get;rw[if_neg h])
  obtain⟨V,y⟩:∃V,C.get a-1=V:=⟨_,rfl⟩;rw[f,u,y];by_cases A:c<C.n
  ·have h1:(C.put a.toNat V).get (c:Int)=nm (C.put a.toNat V).now c:=by unfold Ct.get;rw[C.Zf,if_pos (by omega),Int.toNat_natCast]
   have h2:C.get (c:Int)=nm C.now c:=by unfold Ct.get;rw[if_pos (by omega),Int.toNat_natCast]
   rw[h1,h2,q4t _ _ _ _ A];by_cases e:c=a.toNat
   ·rw[if_pos e,if_pos (by omega)]
   ·rw[if_neg e,if_neg (by omega)]
  ·have h1:(C.put a.toNat V).get (c:Int)=0:=by unfold Ct.get;rw[C.Zf,if_neg (by omega)]
   have h2:C.get (c:Int)=0:=by unfold Ct.get;rw[if_neg (by omega)]
   rw[h1,h2,if_neg (by omega)]
theorem qcc {C:Ct}{a:Int}(h:C.Jw a≠0):C.get a≠0:=λh0=>h (by unfold Ct.Jw;rw[if_pos h0])
theorem qmo (P:Pl)(a:Int)(c:Nat):Pl.live ⟨P.S,P.C.Qj a,P.L⟩ c=if (c:Int)=a/\P.C.Jw a=0 then none else P.live c:=by
 show (if (P.C.Qj a).get (c:Int)=0 then none else P.L c)=if (c:Int)=a/\P.C.Jw a=0 then none else (if P.C.get (c:Int)=0 then none else P.L c)
 rw[qfy];by_cases e:(c:Int)=a
 ·rw[if_pos e];by_cases h:P.C.Jw a=0
  ·rw[if_pos h,if_pos ⟨e,h⟩]
  ·rw[if_neg h,if_neg λh2=>h h2.2,e,if_neg (qcc h)]
 ·have f:¬((c:Int)=a/\P.C.Jw a=0):=λh2=>e h2.1
  rw[if_neg e,if_neg f]
theorem qty {P:Pl}(h:P.ok)(a:Int):Pl.ok ⟨P.S,P.C.Qj a,P.L⟩:=
 ⟨Ct.Py h.c a,Ct.Pz h.res a,h.may,by show P.S.Qb=((P.C.Qj a).n:Int);rw[Ct.Fa];exact h.sec,h.gen,h.fine⟩
theorem qmp {w:World}{p d:Nat}{S T:Nat->Prop}{P:Pl}(H:Pool w p d S T P)(a:Int) :
  Calls Tryz.prog 149 #[.pointer (some ⟨p,0,none⟩),.int .i64 a] w λe w'=>e=.returned (.tuple #[.int .i64 (P.C.Jw a),.int .i64 (P.C.Zh a)])/\Pool w' p d S T ⟨P.S,P.C.Qj a,P.L⟩/\Turn S w w':=by
 have X:=H.ok;obtain⟨m,cur,l,clock,v,Sc,L⟩:=H;have f:=qm5 L.ct a;have y:=qmo P a;have A:=qfy P.C a;have B:=qcc (C:=P.C) (a:=a);have I:=qty X a;obtain⟨V,U⟩:∃V,P.C.Jw a=V:=⟨_,rfl⟩;obtain⟨E,Z⟩:∃E,P.C.Zh a=E:=⟨_,rfl⟩;rw[U] at f y B ⊢;simp only[U] at A;rw[Z] at f ⊢;have G:=Lib.hid f;have M:=Lib.hid y;have F:=Lib.hid I;have O:=Lib.hid A;have Q:=Lib.hid B;have a2:=L.Iq;have a1:=L.mlt;clear f y I U Z A B;by_cases h0:V=0
 ·have nb:(V==0)=true:=by simpa using h0
  have J:=Lib.hid h0;clear h0;go_enter Tryz.func149,Tryz.ntmps149
  go_wp2_with fail
  refine G.out.mono ?_;rintro e w1 ⟨rfl,K,D⟩;have Y:=D.block p L.Iq λh=>(L.ne p h).1 rfl
  have W:=D.block m L.mlt λh=>(L.ne m h).2 rfl
  have a3:w1.cell? ⟨p,40,none⟩=some (.map (some m)):=(World.cell?_of_block (a:=⟨p,40,none⟩) Y).trans L.c40;have a0:=λu ty=>q4v (P:=Tryz.prog) (t:=123) (k:=3) (e:=48) L.ents Tryz.underlying123 Tryz.underlying3 (W.trans L.map) a u ty
  obtain⟨R1,R2⟩:=L.drop (P':=⟨P.S,P.C.Qj a,P.L⟩) (z:=a) D K (Ct.Fa _ _) rfl (λc=>by rw[M.out c];simp only[J.out,and_true]) L.good F.out;go_wp2;go_ret2;exact⟨rfl,R1,R2⟩
 ·have nb:(V==0)=false:=by simpa using h0
  have J:=Lib.hid h0;clear h0;go_enter Tryz.func149,Tryz.ntmps149
  go_wp2_with fail
  refine G.out.mono ?_;rintro e w1 ⟨rfl,K,D⟩;have R:=L.Qa1 D K (Ct.Fa _ _) (λc=>?_) F.out
  ·go_wp2;go_ret2;exact⟨rfl,⟨m,cur,l,clock,v,Sc,R⟩,D.mono L.Yj.2.2⟩
  ·rw[O.out c];by_cases e:(c:Int)=a
   ·rw[if_pos e,e];exact⟨λh=>absurd h J.out,λh=>absurd h (Q.out J.out)⟩
   ·rw[if_neg e]
end
section
variable {w:World}{p d:Nat}{S T:Nat->Prop}{P:Pl}
theorem qtz (H:Pool w p d S T P)(a:Int)(h0:P.C.get a=0) :
  Calls Tryz.prog 83 #[.pointer (some ⟨p,0,none⟩),.int .i64 a] w λe u=>e=.returned (.tuple #[.slice none 0 0,.int .i64 0,.int .i64 1])/\w=u:=by
 have f:=q1l H a 0 h0;go_enter Tryz.func83,Tryz.ntmps83
 go_wp2_with (first
  |(go_at_call 38;refine f.mono ?_;rintro e w1 ⟨rfl,rfl⟩)
  |fail)
 go_ret3;exact⟨rfl,rfl⟩
theorem qmq (H:Pool w p d S T P)(a:Nat)(b:Bk)(u:P.live a=some b) :
  Calls Tryz.prog 83 #[.pointer (some ⟨p,0,none⟩),.int .i64 (a:Int)] w λe D=>∃A n c,e=.returned (.tuple #[.slice A n c,.int .i64 1,.int .i64 0])/\Sl D A n c (b.out a 0)/\Below w.1.size w D:=by
 obtain⟨x,B⟩:∃x,P.C.get (a:Int)=x:=⟨_,rfl⟩;have y:x≠0:=λh=>by unfold Pl.live at u;rw[if_pos (B.trans h)] at u;cases u
 have E:=q1l H (a:Int) x B;have J:(x==0)=false:=by simpa using y
 obtain⟨m,cur,l,clock,v,Sc,L⟩:=H;obtain⟨g,c,G,F,_⟩:=L.row a b u;have I:=L.c40;have f:=q4o L.ents Tryz.underlying123 Tryz.underlying3 (Tryz.zeroValue48 w) L.map (a:Int);rw[L.look a,u,G] at f;replace f:(Instr.lookup 123 (.map (some m)) (.int .i64 (a:Int)) true).run Tryz.prog w=.ok (.tuple #[.slice (some ⟨g,0,none⟩) 256 c,.bool true]) w:=f;clear B y u;go_enter Tryz.func83,Tryz.ntmps83
 go_wp2_with (first
  |(go_at_call 38;refine E.mono ?_;rintro e w1 ⟨rfl,rfl⟩)
  |fail)
 go_ret3;exact⟨_,_,_,rfl,F,Below.refl _ _⟩
theorem qal {I:Nat->Prop}{D:DM}(F:Vp w d I D)(H:Pool w p d S T P)(a:Nat)(h0:P.C.get (a:Int)≠0)(B:P.live a=none) :
  Calls Tryz.prog 83 #[.pointer (some ⟨p,0,none⟩),.int .i64 (a:Int)] w λe E=>∃A n c,e=.returned (.tuple #[.slice A n c,.int .i64 5,.int .i64 (D.Yb (a:Int))])/\Sl E A n c (D.Yl (a:Int))/\Below w.1.size w E:=by
 obtain⟨x,y⟩:∃x,P.C.get (a:Int)=x:=⟨_,rfl⟩;rw[y] at h0;have K:=q1l H (a:Int) x y;have Q:(x==0)=false:=by simpa using h0
 obtain⟨m,cur,l,clock,v,Sc,L⟩:=H;have M:=L.c40;have R:=L.c0;have f:=q4o L.ents Tryz.underlying123 Tryz.underlying3 (Tryz.zeroValue48 w) L.map (a:Int);rw[L.look a,B] at f;replace f:(Instr.lookup 123 (.map (some m)) (.int .i64 (a:Int)) true).run Tryz.prog w=.ok (.tuple #[.slice none 0 0,.bool false]) w:=f;obtain⟨_,_,_,_,_,G⟩:=F;have u:=q9c G (a:Int);clear y h0 B;go_enter Tryz.func83,Tryz.ntmps83
 go_wp2_with (first
  |(go_at_call 38;refine K.mono ?_;rintro e w1 ⟨rfl,rfl⟩)
  |(go_at_call 138;refine u.mono ?_;rintro e w2 ⟨A,n,rfl,O,_,J,_⟩)
  |fail)
 go_ret3;exact⟨_,_,_,rfl,O,J⟩
end
section
theorem qpn (n:Nat):Xq n=Va n++Uu (Ct.zero n) (fmtS n):=by
 unfold Xq Tn fmtC Uu Me;rw[Ct.Zi];show Va n++(Fh (Qw n 1) (Ko (Ct.zero n) 1)++[.fl]++[.w 1 (swB (fmtS n) 1),.fl])=Va n++(Fh (Qw n 1) (Ko (Ct.zero n) 1)++.fl::[.w 1 (swB (fmtS n) 1),.fl]);rw[List.append_assoc];rfl
theorem qxb (g x:Int)(w:World):(bdS #[(0,.int .i64 g),(1,.int .i64 x)]).run Tryz.prog w=.ok (.agg (sp0 g x 0).vs.toArray) w:=by
 show (Instr.build 120 #[(0,.int .i64 g),(1,.int .i64 x)]).run Tryz.prog w=_;kernel_rfl
structure Sm (w0 w:World)(p d q:Nat)(S0:Nat->Prop)(D:DM)(P:Pl):Prop where
 turn:Turn S0 w0 w
 Ba:Vp w d (λk=>(S0 k\/w0.heap.size<=k)/\k<q) D
 pool:∀T:Nat->Prop,(∀k,q<=k->T k)->Pool w p d (λk=>q<=k) T P
 ge:w0.heap.size<=q/\q<=w.heap.size
attribute [local go_sem ↓] q9b
theorem qib {w:World}{d:Nat}{Y:Nat->Prop}{D:DM}(L:Vp w d Y D)(Q:D.free)(hG:¬Y 1)(ht:Tab w){m:Nat}(a8:D.Xw m)(hm:m<=700000) :
  Calls Tryz.prog 42 #[.pointer (some ⟨d,0,none⟩)] w λe w'=>∃p q,e=.returned (.tuple #[.pointer (some ⟨p,0,none⟩),.int .i64 0])/\Sm w w' p d q Y (D.Qx (Xq D.n)) (Pl.fresh D.n):=by
 have f:=L.Qb;unfold Qb at f;obtain⟨M,u,_⟩:=qk7 f.1 f.2 rfl Q;obtain⟨n,hn⟩:∃n,D.n=n:=⟨_,rfl⟩;rw[hn] at M u f ⊢;rw[qpn] at M;have G:D.Jj (Va n)=0:=Classical.byContradiction λh=>h (by
  have:=(q6d (l':=Uu (Ct.zero n) (fmtS n)) h).1;rw[this] at M;exact M)
 have O:(D.Qx (Va n)).Jj (Uu (Ct.zero n) (fmtS n))=0:=by rw[q43,if_pos G] at M;exact M
 have I:D.Qx (Xq n)=(D.Qx (Va n)).Qx (Uu (Ct.zero n) (fmtS n)):=by rw[qpn,q44,if_pos G]
 have E:=qml L a8 (by omega);rw[hn] at E;have a4:D.Ut (Va n)=true:=decide_eq_true G;rw[a4] at E;obtain⟨D1,H⟩:∃x,D.Qx (Va n)=x:=⟨_,rfl⟩;obtain⟨D2,B⟩:∃x,D.Qx (Xq n)=x:=⟨_,rfl⟩;have a7:D1.n=n:=by rw[<-H,qx7];exact hn
 have R:D2.n=n:=by rw[<-B,qx7];exact hn
 have b8:D1.Xw (m+3):=by rw[<-H];exact q71 _ a8
 rw[H] at E O I;rw[B] at u I ⊢;have a5:D1.Ut (Uu (Ct.zero n) (fmtS n))=true:=decide_eq_true O;have A:=qfo u;rw[R] at A;have a6:(Gp D2.newest).gen<1099511627775:=by rw[A.2.1];show (1:Int)<1099511627775;omega
 have hP:Pl.Gg D2.newest n=Pl.fresh n:=by
  unfold Pl.Gg Pl.fresh;rw[A.2.1];have:Oe D2.newest n (fmtS n).gen=Ct.zero n:=by
   have h:=A.2.2;have e:(Ct.zero n).commit=Ct.zero n:=rfl;rw[e] at h;exact h
  rw[this]
 have J:=u.free.on;have b5:=Lib.hid A.1;have b1:=Lib.hid E;have b0:=Lib.hid a5;have a9:=Lib.hid I;have HP:=Lib.hid hP;have b3:=Lib.hid a6;have a0:=Lib.hid J;have Z:=Lib.hid a7;have b6:=Lib.hid R;have HG:=Lib.hid hG;have b9:=qxb 1 (n:Int);have c7:=ht.1;clear E a5 I hP a6 J a7 R A a4 O G M u hG hn H B;go_enter Tryz.func42,Tryz.ntmps42
 go_wp2_with fail
 refine b1.out.mono ?_;rintro e w1 ⟨rfl,X⟩;have t1:=ht.turned X.turn HG.out;have Ly:=X.Ba.tight;obtain⟨_,_,_,_,_,a1⟩:=Ly;have y:=q9n a1;rw[Z.out] at y;have b7:=Lib.hid y;clear y a1;go_wp2_with (first
  |(go_at_call 90;refine b7.out.mono ?_;rintro e w2 ⟨rfl,rfl⟩)
  |fail)
 refine (qdu n f.1 f.2 w1).mono ?_;rintro e w2 ⟨pc,rfl,C2,c6,b2⟩;have K:=X.Ba.tight.below b2;have t2:=t1.below b2 t1.1;have z1:=X.turn.size;have z2:=b2.size;obtain⟨_,_,_,_,_,a2⟩:=K;have y:=q9n a2;have K:=X.Ba.tight.below b2;rw[Z.out] at y;have a3:=Lib.hid y;clear y a2;go_wp2_with (first
  |(go_at_call 90;refine a3.out.mono ?_;rintro e w3 ⟨rfl,rfl⟩)
  |fail)
 have W:=qi8 K C2 (λk F=>⟨by have:=F.2;omega,λh=>by have:=F.2;omega⟩) (λh=>h.1.elim HG.out λh2=>by omega) (fmtS n) (q5i f.1 f.2) (qkd (q5i f.1 f.2)) (by rw[Ct.Zi];rfl) t2 b8 (by omega);rw[b0.out,<-a9.out] at W;refine W.mono ?_;rintro e w3 ⟨rfl,L3⟩;clear W;have t3:=t2.turned L3.turn λh=>h.1.elim HG.out λh2=>by omega
 have z3:=L3.turn.size;go_wp2_with fail
 refine (qmn L3.Ba t3 b3.out).mono ?_;rw[a0.out,b6.out,HP.out,b5.out];rintro e w4 ⟨⟨_,p,rfl,U,hp⟩|⟨h,_⟩,b4⟩
 ·go_wp2;go_ret2;refine⟨p,w3.1.size,rfl,?_,?_,U,by omega,b4.size⟩
  ·have T2:Turn Y w w2:=X.turn.trans (Qu b2) λk F=>.inl F
   have T3:Turn Y w w3:=T2.trans L3.turn λk F=>F.1.elim .inl λh=>.inr h
   exact T3.trans (Qu b4) λk F=>.inl F
  ·exact ((L3.Ba.mono (S':=λk=>(Y k\/w.1.size<=k)/\k<w3.1.size) λk F h=>⟨h.elim (λh=>h.1) λh=>.inr (by omega),F⟩).below b4)
 ·exact absurd rfl h
end
