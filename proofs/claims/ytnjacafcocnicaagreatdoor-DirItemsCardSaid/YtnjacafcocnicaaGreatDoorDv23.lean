/- The code's pool: Mount -/
import Derived.Test.YtnjacafcocnicaaGreatDoorPoD
namespace Go.Proofs.YtnjacafcocnicaaGreatDoor
open Go Go.RowKit Go.Proofs Tryz
set_option maxHeartbeats 8000000
set_option maxRecDepth 100000
section
def Kw (d:Nat)(S:Sp)(f q u y:Value)(m:Nat):LV:=.pointer (some ⟨d,0,none⟩)::(S.vs++[f,q,u,y,.map (some m)])
theorem qrb (d:Nat)(S:Sp)(f q u y:Value)(m:Nat):(Kw d S f q u y m).length=41:=by unfold Kw;rw[AX,AD,S.Zh];rfl
theorem qlt (d:Nat)(S:Sp)(f q u y:Value)(m k:Nat):(Kw d S f q u y m)[36+k]?=[f,q,u,y,.map (some m)][k]?:=by
 unfold Kw;rw[show 36+k=(35+k)+1 by omega,List.getElem?_cons_succ,List.getElem?_append_right (by rw[S.Zh];omega),S.Zh,Nat.add_sub_cancel_left]
theorem qvy (d:Nat)(S:Sp)(q u y A:Value)(m:Nat):PH (Kw d S q u y A m).toArray d m S:=by
 refine⟨by rw[List.size_toArray,qrb],rfl,λj x f=>?_,?_⟩
 ·have B:=(List.getElem?_eq_some_iff.1 f).1;rw[List.getElem?_toArray,Nat.add_comm];unfold Kw;rw[List.getElem?_cons_succ,List.getElem?_append_left B];exact f
 ·rw[List.getElem?_toArray];exact qlt d S q u y A m 4
def bdP (parts:Array (Nat × Value)):Sem Value:=Instr.build 113 parts
theorem qvz (parts:Array (Nat × Value)):Instr.build 113 parts=bdP parts:=rfl
def ldC (p:Value):Sem Value:=Instr.loadAt 110 p
theorem qw0 (p:Value):Instr.loadAt 110 p=ldC p:=rfl
theorem qA7 (d:Nat)(S:Sp)(q u y A:Value)(m:Nat)(w:WD):(bdP #[(0,.pointer (some ⟨d,0,none⟩)),(1,.agg S.vs.toArray),(2,.agg #[q,u,y,A]),(3,.map (some m))]).run prog w=.ok (.agg (Kw d S q u y A m).toArray) w:=by
 unfold Kw Sp.vs;obtain⟨a,b,c,D,e,f,g,h,B⟩:=ql7 S.len;rw[B];show (Instr.build 113 _).run prog w=_;kernel_rfl
theorem Qct {f:Nat->LU}{n:Nat}:Fp f true n=4:=by unfold Fp;rw[AA rfl]
theorem qyx {f:Nat->LU}{n:Nat}(h:¬(Ip (f 0) (f 1)=0/\(Ad f).Qb=(n:Int))):Fp f false n=27:=by unfold Fp;rw[AB (by decide),AA h]
theorem Qcu {f:Nat->LU}{n:Nat}(h:Ip (f 0) (f 1)=0/\(Ad f).Qb=(n:Int))(h2:¬((∀i,i<Qg n->Vf (f (Qp n (Ad f).gen+i)) (Qp n (Ad f).gen+i) (Ad f).gen=true)/\Xm (n:Int) (mtB f n (Ad f).gen)=0)):Fp f false n=5:=by unfold Fp;rw[AB (by decide),AB (λq=>q h),AA h2]
theorem Qcs {f:Nat->LU}{n:Nat}(h:Ip (f 0) (f 1)=0/\(Ad f).Qb=(n:Int))(h2:(∀i,i<Qg n->Vf (f (Qp n (Ad f).gen+i)) (Qp n (Ad f).gen+i) (Ad f).gen=true)/\Xm (n:Int) (mtB f n (Ad f).gen)=0):Fp f false n=0:=by unfold Fp;rw[AB (by decide),AB (λq=>q h),AB (λq=>q h2)]
theorem Qdc (a b:LU):Ip a b=0\/Ip a b=27:=by unfold Ip;split;exact .inr rfl;exact .inl rfl
def Pl.Vy (f:Nat->LU)(n:Nat):Pl:=⟨Ad f,O8 f n (Ad f).gen,λ_=>none⟩
attribute [local go_sem ↓] q1w q5b qvz qw0
theorem qog {w:WD}{d:Nat}{S0:NP}{D:DM}(L0:Vk w d S0 D)(ht:Tab w)(d6:(Ad D.newest).gen<1099511627775) :
  Calls prog 47 #[.pointer (some ⟨d,0,none⟩)] w λe q=>
   ((Fp D.newest D.off D.n=0/\∃p,e=.returned (.tuple #[.pointer (some ⟨p,0,none⟩),.int .i64 0])/\(∀T:NP,(∀k,w.1.size<=k->T k)->Pool q p d (λk=>w.1.size<=k) T (Pl.Vy D.newest D.n))/\w.1.size<=p)\/
    (Fp D.newest D.off D.n≠0/\e=.returned (.tuple #[.pointer none,.int .i64 (Fp D.newest D.off D.n)])))/\Below w.1.size w q:=by
 have d9:=L0.Qb;unfold Qb at d9;have L:=L0.tight;have b6:=ht.1;obtain⟨_,_,_,_,_,Ly⟩:=L;have R:=qCi Ly;have f0:=qag;have e5:=HI d6;clear L0 d6
 cases G:D.off
 ·rw[G] at R;have L:Vk w d _ D:=⟨_,_,_,_,_,Ly⟩;obtain⟨x0,b7⟩:∃x,D.newest 0=x:=⟨_,rfl⟩;obtain⟨x1,b9⟩:∃x,D.newest 1=x:=⟨_,rfl⟩;have b0:=λq (hb:Below w.1.size w q)=>q9s (Ly.keep λk K _=>hb.block k K) 0
  have b1:=λq (hb:Below w.1.size w q)=>q9s (Ly.keep λk K _=>hb.block k K) 1
  have r0:=qfy G (s:=0) (by omega);have r1:=qfy G (s:=1) (by omega);rw[b7] at r0;rw[b9] at r1;have e1:D.Xv 0=x0:=r0.1;have e2:D.Xp 0=0:=r0.2;have e3:D.Xv 1=x1:=r1.1;have e4:D.Xp 1=0:=r1.2;simp only[e1,e2] at b0;simp only[e3,e4] at b1;obtain⟨S,hS⟩:∃S,snS x0 x1=S:=⟨_,rfl⟩;have d7:Ad D.newest=S:=by unfold Ad;rw[b7,b9,hS]
  have hE:Ip (D.newest 0) (D.newest 1)=Ip x0 x1:=by rw[b7,b9]
  have Q:=HI d7;have HE:=HI hE;have HS:=HI hS;have Z:=HI b0;have a2:=HI b1;have d3:=HI G;clear b0 b1 r0 r1 e1 e2 e3 e4 d7 hE hS b7 b9 Ly G;rcases Qdc x0 x1 with hE|hE
  ·have a8:S.may=true:=by rw[<-HS.out];exact qC3 hE
   have b5:=hE;by_cases U:S.Qb=(D.n:Int)
   ·have d5:Ip (D.newest 0) (D.newest 1)=0/\(Ad D.newest).Qb=(D.n:Int):=⟨HE.out.trans hE,by rw[Q.out];exact U⟩;have O:=HI d5;have d1:=HI U;have Y:=HI a8;have e9:((D.n:Int)!=(D.n:Int))=false:=by simp
    clear d5 a8 U;go_enter func47,ntmps47
    go_wp2_with (first
     |(go_at_call 81;refine R.mono ?_;rintro e w1 ⟨rfl,rfl⟩)
     |(go_at_call 82;have hh:=J;refine (a2.out w2 J).mono ?_;rintro e w3 ⟨A3,n3,rfl,s3,_,b3,_⟩;have W:=J.trans (b3.mono J.size))
     |(go_at_call 82;refine (Z.out w (AI _ _)).mono ?_;rintro e w2 ⟨A2,n2,rfl,s2,_,J,_⟩)
     |(go_at_call 83;have hN:=q83 A2 n2 n2 x0 A3 n3 n3 x1 w3 (s2.below b3) s3 (ht.below W b6);unfold q3r at hN;rw[HS.out,b5] at hN;refine hN.mono ?_;rintro e H ⟨rfl,b4⟩;have B4:=W.trans (b4.mono W.size))
     |(refine Fq rfl (.tmp 8) (.tmp 29) rfl H.1.size rfl S Sp.zero rfl (SB.new H Sp.zero _) ?_;intro V X6 a7 T6)
     |fail)
    have a6:Below H.1.size H V:=(Qi).trans (a7 _ (AE _));have M:=B4.trans (a6.mono B4.size);have L6:=L.below M;obtain⟨_,_,_,_,_,b2⟩:=L6;have q1:=X6.c1;rw[d1.out] at q1;have zX:H.1.size<V.1.size:=X6.lt;have g1:∀u:Grown V,u.to.cell? ⟨H.1.size,1,none⟩=some (.int .i64 (D.n:Int)):=Grown.cell q1 zX;have I:=HI (λu:Grown V=>qa3 (b2.keep λk K _=>u.ok.block k K));refine Ux (by kernel_rfl) (by kernel_rfl) ?_;repeat (go_big_quiet_step (first
     |(go_at_call 45;exact Calls.Xh (I.out _))
     |fail))
    refine wpQuiet_nil ?_;rintro _ ⟨u,rfl⟩;have X:=M.trans (u.ok.mono M.size);have X7:=X6.below u.ok zX;have L7:=L.below X;have t7:=ht.below X b6;have f2:=X7.ld;clear g1 I q1 b2;go_wp2_with fail
    refine (qui L7 d3.out S Y.out d1.out t7).mono ?_;rintro e f ⟨⟨hy,pc,rfl,C8,f4⟩|⟨hn,E,d4,rfl⟩,b8⟩
    ·have H0:=HI (show Fp D.newest false D.n=0 from Qcs O.out (by rw[Q.out];exact hy));have d8:=qC4 hy.2;have f9:=X.size;have B8:=X.trans (b8.mono X.size);have X8:=X7.below b8 X7.lt;have zp:pc<f.1.size:=C8.lt;have z8:=b8.size;have hC:=C8;obtain⟨a0,e6,a1,e7,ty,cu,k1,⟨k2,k3,k4,k5⟩,k6,k7,k8,k9,g0⟩:=C8;obtain⟨y,c7⟩:∃x:Value,Value.slice (some ⟨a0,0,none⟩) (O8 D.newest D.n S.gen).n e6=x:=⟨_,rfl⟩;obtain⟨A,c8⟩:∃x:Value,Value.slice (some ⟨a1,0,none⟩) (O8 D.newest D.n S.gen).n e7=x:=⟨_,rfl⟩;obtain⟨B,c9⟩:∃x:Value,Value.int .i64 (Qg (O8 D.newest D.n S.gen).n:Int)=x:=⟨_,rfl⟩;obtain⟨F,d0⟩:∃x:Value,Value.int .i64 ((O8 D.newest D.n S.gen).first:Int)=x:=⟨_,rfl⟩;have hF:∀q,Below f.1.size f q->(ldS (.pointer (some ⟨H.1.size,0,none⟩))).run prog q=.ok (.agg S.vs.toArray) q/\(ldC (.pointer (some ⟨pc,0,none⟩))).run prog q=.ok (.agg #[y,A,B,F]) q/\Below f.1.size f q:=λq hb=>by
      refine⟨(X8.below hb X8.lt).ld,?_,hb⟩;have r:q.rangeAt pc 0 [y,A,B,F]:=λj v hv=>by
       rw[AT];refine q2r ((hb.block pc zp).trans k1) ?_;rw[c7] at k2;rw[c8] at k3;rw[c9] at k4;rw[d0] at k5;match j with
       |0=>rw[k2];exact hv
       |1=>exact k3.trans hv
       |2=>exact k4.trans hv
       |3=>exact k5.trans hv
       |j+4=>simp at hv
      exact run_loadAt_mid q pc 0 110 _ _ r underlying110 rfl (by kernel_rfl)
     have BD:Below f.1.size f f.drew:=(AI _ _).drew;have f3:=@run_makeMap prog;have f1:=λm q=>qA7 d S y A B F m q
     go_wp2_with fail
     go_region_held3 (λq=>(ldS (.pointer (some ⟨H.1.size,0,none⟩))).run prog q=.ok (.agg S.vs.toArray) q/\(ldC (.pointer (some ⟨pc,0,none⟩))).run prog q=.ok (.agg #[y,A,B,F]) q/\Below f.1.size f q)
      (first|assumption|exact hF _ BD|exact hF _ (BD.alloc (AE _) _)|exact hF _ (((Qi).alloc (by simp) _).drew))
      (first
       |fail)
     have B9:Below f.1.size f ((f.alloc (.map #[] 0)).alloc (.cells (Kw d S y A B F f.1.size).toArray 113)).drew:=((Qi).alloc (by simp) _).drew;have c6:((f.alloc (.map #[] 0)).alloc (.cells (Kw d S y A B F f.1.size).toArray 113)).drew.1[f.1.size]?=some (.map #[] 0):=by
      show ((f.alloc (.map #[] 0)).alloc (.cells (Kw d S y A B F f.1.size).toArray 113)).1[f.1.size]?=_;rw[heap_alloc_old _ _ (by simp),BE]
     have d2:((f.alloc (.map #[] 0)).alloc (.cells (Kw d S y A B F f.1.size).toArray 113)).drew.1[f.1.size+1]?=some (.cells (Kw d S y A B F f.1.size).toArray 113 (0,0)):=by
      show ((f.alloc (.map #[] 0)).alloc (.cells (Kw d S y A B F f.1.size).toArray 113)).1[f.1.size+1]?=_;have e:f.1.size+1=(f.alloc (.map #[] 0)).1.size:=by simp
      rw[e,BE]
     generalize ((f.alloc (.map #[] 0)).alloc (.cells (Kw d S y A B F f.1.size).toArray 113)).drew=w9 at B9 c6 d2 ⊢;go_wp2;go_ret2;rw[H0.out];have BB:=B8.trans (B9.mono B8.size);refine⟨.inl ⟨rfl,f.1.size+1,rfl,λT hT=>?_,by omega⟩,BB⟩;have e8:(O8 D.newest D.n S.gen).n=D.n:=qjl _ _;have C9:Y1 w9 (f.1.size+1) 36 (λk=>w.1.size<=k/\k<f.1.size) (O8 D.newest D.n S.gen):=by
      have hS:=(hC.mono (S':=λk=>w.1.size<=k) λk K=>by omega).shrink;refine Y1.around (p:=pc) (o:=0) hS k1 d2 (λj hj=>?_) (λk K=>by omega) λk K _=>B9.block k K
      rw[List.getElem?_toArray,qlt];match j,hj with
      |0,_=>exact c7.symm▸k2.symm
      |1,_=>exact c8.symm▸k3.symm
      |2,_=>exact c9.symm▸k4.symm
      |3,_=>exact d0.symm▸k5.symm
     have hP:Pl.Vy D.newest D.n=⟨S,O8 D.newest D.n S.gen,λ_=>none⟩:=by unfold Pl.Vy;rw[Q.out]
     rw[hP];refine⟨f.1.size,_,[],0,λ_=>undef,_,⟨d2,qvy d S _ _ _ _ _,C9,c6,⟨λe he=>(by cases he),List.nodup_nil,List.nodup_nil,λe he=>(by cases he)⟩,λa=>?_,λe he=>(by cases he),λa b h=>?_,λa b h=>(by cases h),⟨by omega,by omega,λk K=>K.1⟩,λk K=>by omega,hT,⟨hC.ok,d8,Y.out,by rw[e8];exact d1.out,by rw[<-Q.out];exact e5.out,λa b h=>(by cases h)⟩,qeu Y.out⟩⟩
     ·unfold Pl.live;split<;>rfl
     ·unfold Pl.live at h;split at h<;>cases h
    ·have H5:=HI (show Fp D.newest false D.n=5 from Qcu O.out (by rw[Q.out];exact hn));have nb:(E != 0)=true:=by simpa using d4
     clear hn d4;go_wp2;go_ret2;rw[H5.out];exact⟨.inr ⟨by omega,rfl⟩,X.trans (b8.mono X.size)⟩
   ·have O:=HI (show Fp D.newest false D.n=27 from qyx (λh=>U (by rw[<-Q.out];exact h.2)));have e9:(S.Qb != (D.n:Int))=true:=by simpa using U
    clear a8 U;go_enter func47,ntmps47
    go_wp2_with (first
     |(go_at_call 81;refine R.mono ?_;rintro e w1 ⟨rfl,rfl⟩)
     |(go_at_call 82;have hh:=J;refine (a2.out w2 J).mono ?_;rintro e w3 ⟨A3,n3,rfl,s3,_,b3,_⟩;have W:=J.trans (b3.mono J.size))
     |(go_at_call 82;refine (Z.out w (AI _ _)).mono ?_;rintro e w2 ⟨A2,n2,rfl,s2,_,J,_⟩)
     |(go_at_call 83;have hN:=q83 A2 n2 n2 x0 A3 n3 n3 x1 w3 (s2.below b3) s3 (ht.below W b6);unfold q3r at hN;rw[HS.out,b5] at hN;refine hN.mono ?_;rintro e H ⟨rfl,b4⟩;have B4:=W.trans (b4.mono W.size))
     |(refine Fq rfl (.tmp 8) (.tmp 29) rfl H.1.size rfl S Sp.zero rfl (SB.new H Sp.zero _) ?_;intro V X6 a7 T6)
     |fail)
    have a6:Below H.1.size H V:=(Qi).trans (a7 _ (AE _));have M:=B4.trans (a6.mono B4.size);have L6:=L.below M;obtain⟨_,_,_,_,_,b2⟩:=L6;have zX:H.1.size<V.1.size:=X6.lt;have g1:∀u:Grown V,u.to.cell? ⟨H.1.size,1,none⟩=some (.int .i64 S.Qb):=Grown.cell X6.c1 zX;have I:=HI (λu:Grown V=>qa3 (b2.keep λk K _=>u.ok.block k K));refine Ux (by kernel_rfl) (by kernel_rfl) ?_;repeat (go_big_quiet_step (first
     |(go_at_call 45;exact Calls.Xh (I.out _))
     |fail))
    refine wpQuiet_nil ?_;rintro _ ⟨u,rfl⟩;have X:=M.trans (u.ok.mono M.size);go_wp2;go_ret2;rw[O.out];exact⟨.inr ⟨by omega,rfl⟩,X⟩
  ·have b5:=hE;have O:=HI (show Fp D.newest false D.n=27 from qyx (λh=>by have:=h.1;rw[HE.out,hE] at this;cases this));go_enter func47,ntmps47
   go_wp2_with (first
     |(go_at_call 81;refine R.mono ?_;rintro e w1 ⟨rfl,rfl⟩)
     |(go_at_call 82;have hh:=J;refine (a2.out w2 J).mono ?_;rintro e w3 ⟨A3,n3,rfl,s3,_,b3,_⟩;have W:=J.trans (b3.mono J.size))
     |(go_at_call 82;refine (Z.out w (AI _ _)).mono ?_;rintro e w2 ⟨A2,n2,rfl,s2,_,J,_⟩)
     |(go_at_call 83;have hN:=q83 A2 n2 n2 x0 A3 n3 n3 x1 w3 (s2.below b3) s3 (ht.below W b6);unfold q3r at hN;rw[HS.out,b5] at hN;refine hN.mono ?_;rintro e H ⟨rfl,b4⟩;have B4:=W.trans (b4.mono W.size))
     |(refine Fq rfl (.tmp 8) (.tmp 29) rfl H.1.size rfl S Sp.zero rfl (SB.new H Sp.zero _) ?_;intro V X6 a7 T6)
     |fail)
   have a6:Below H.1.size H V:=(Qi).trans (a7 _ (AE _));have M:=B4.trans (a6.mono B4.size);go_quiet (fail)
   generalize e0:World.drewN V _=w7;have X:Below w.1.size w w7:=by rw[<-e0];exact⟨M.os,M.tape,M.output,M.size,M.block⟩
   clear e0;go_wp2;go_ret2;rw[O.out];exact⟨.inr ⟨by omega,rfl⟩,X⟩
 ·rw[G] at R;have H4:=HI (show Fp D.newest true D.n=4 from Qct);go_enter func47,ntmps47
  go_wp2_with (first
   |(go_at_call 81;refine R.mono ?_;rintro e w1 ⟨rfl,rfl⟩)
   |fail)
  go_ret2;rw[H4.out];exact⟨.inr ⟨by omega,rfl⟩,AI _ _⟩
end
section
open Go.ChangeMaps (setBlock)
section
variable {P:Program}{w:WD}{t k e b clock:Nat}{l:List MapEntry}
theorem q4k (E:Uo l clock)(A:P.underlying t=some (.map k e))(q:P.underlying k=some (.int .i64)){z:Value}(F:(zeroValue e).run P w=.ok z w)(u:w.1[b]?=some (.map l.toArray clock))(s:Int) :
  (Instr.lookup t (.map (some b)) (.int .i64 s) true).run P w=.ok (.tuple #[(Zf s l).getD z,.bool (Zf s l).isSome]) w:=by
 have y:=λB=>MapKept.run_checkKey (P:=P) (w:=w) q (k:=.int .i64 s) rfl B 9999
 rcases qa8 s l 0 E.key with⟨h1,h2,_⟩|⟨j,x,h1,_,_,D,_⟩
 ·have f:=MapKept.run_findKey (P:=P) (w:=w) q h1;simp[Instr.lookup,run_underlying A,MapKept.run_getObj_map u,y,f,F,h2]
 ·have f:=MapKept.run_findKey (P:=P) (w:=w) q h1;simp[Instr.lookup,run_underlying A,MapKept.run_getObj_map u,y,f,D]
end
theorem Qcw {w:WD}{g n c:Nat}{x:LU}(h:Sl w (some ⟨g,0,none⟩) n c x)(hn:0<n):g<w.1.size:=by
 obtain⟨q,e,f,_⟩:=h.cell hn;injection e with e;subst e;exact f
section
variable {w w1 w2:WD}{p d m clock:Nat}{cur:Array Value}{l:List MapEntry}{v:Nat->Value}{Sc S T:NP}{P P':Pl}
theorem PL.store (L:PL w p d m cur l clock v Sc S T P)(t:Turn Sc w w1)(C1:Y1 w1 p 36 Sc P'.C)(b12:Below w1.1.size w1 w2)(hn:P'.C.n=P.C.n)(hS:P'.S=P.S){a:Nat}(ha:a<P.C.n){b:Bk}(hlive:∀c,P'.live c=if c=a then some b else P.live c)
  (hgood:∀c x,P'.L c=some x->x.good) (hok:P'.ok) {q:Nat} (hx:Sl w2 (some ⟨q,0,none⟩) 256 256 (b.out a 0)) (hq:¬T q) :
  Pool (setBlock w2 m (.map (Xc (a:Int) (.slice (some ⟨q,0,none⟩) 256 256) clock l).toArray (if Zf (a:Int) l=none then clock+1 else clock))) p d S T P'/\
   Turn S w (setBlock w2 m (.map (Xc (a:Int) (.slice (some ⟨q,0,none⟩) 256 256) clock l).toArray (if Zf (a:Int) l=none then clock+1 else clock))):=by
 have Q:=t.block m L.mlt λh=>(L.ne m h).2 rfl
 have R:=L.mlt;have U:=t.size;have V:=b12.size;have J:Turn S w w2:=(t.mono L.Yl.2.2).then (Qz b12);have u:Turn (λk=>k=m) w2 (setBlock w2 m (.map (Xc (a:Int) (.slice (some ⟨q,0,none⟩) 256 256) clock l).toArray (if Zf (a:Int) l=none then clock+1 else clock))):=q0t _ rfl;have y:(setBlock w2 m (.map (Xc (a:Int) (.slice (some ⟨q,0,none⟩) 256 256) clock l).toArray (if Zf (a:Int) l=none then clock+1 else clock))).1[m]?=some (.map (Xc (a:Int) (.slice (some ⟨q,0,none⟩) 256 256) clock l).toArray (if Zf (a:Int) l=none then clock+1 else clock)):=q2a (by omega);generalize setBlock w2 m (.map (Xc (a:Int) (.slice (some ⟨q,0,none⟩) 256 256) clock l).toArray (if Zf (a:Int) l=none then clock+1 else clock))=W at u y ⊢;have f:∀k,k<w.1.size->k≠m->¬Sc k->W.1[k]?=w.1[k]?:=λk B E F=>(u.block k (by omega) E).trans ((b12.block k (by omega)).trans (t.block k B F))
 have G:=f p L.Nw L.p_m (λh=>(L.ne p h).1 rfl);refine⟨⟨m,cur,Xc (a:Int) (.slice (some ⟨q,0,none⟩) 256 256) clock l,(if Zf (a:Int) l=none then clock+1 else clock),upd v a (.slice (some ⟨q,0,none⟩) 256 256),Sc,G.trans L.me,hS▸L.ph,?_,y,L.ents.put (a:Int) _,λc=>?_,λe O=>?_,λc x h=>?_,hgood,L.Yl,L.ne,L.sub,hok,hS▸L.Fh⟩,J.trans u λk B=>by rw[B];exact .inl L.Yl.2.1⟩
 ·have I:=C1.below b12;exact I.keep (u.block p (by have:=L.Nw;omega) L.p_m) λk B H=>u.block k B λe=>(L.ne k H).2 e
 ·rw[qeb,hlive c];by_cases e:c=a
  ·subst e;rw[AA rfl,AA rfl,Ci];rfl
  ·rw[AB (by omega),AB e,Bv _ _ e];exact L.look c
 ·rw[hn];rcases qa7 O with h|⟨h,_⟩
  ·exact L.keys e h
  ·exact⟨a,ha,by unfold kI;rw[h]⟩
 ·rw[hlive c] at h;by_cases e:c=a
  ·rw[AA e] at h;injection h with h;subst h e;rw[Ci];refine⟨q,256,rfl,?_,hq⟩;exact PL.keep.stay_slice hx u.size λA=>u.block q A λe=>hq (by rw[e];exact L.sub m L.Yl.2.1)
  ·rw[AB e] at h;rw[Bv _ _ e];obtain⟨g,K,M,H,A⟩:=L.row c x h;exact⟨g,K,M,PL.keep.stay_slice H (by have:=u.size;omega) λD=>f g D (λe=>A (by rw[e];exact L.sub m L.Yl.2.1)) λh=>A (L.sub g (L.Yl.2.2 g h)),A⟩
theorem PL.drop (L:PL w p d m cur l clock v Sc S T P)(t:Turn Sc w w1)(C1:Y1 w1 p 36 Sc P'.C)(hn:P'.C.n=P.C.n)(hS:P'.S=P.S){z:Int}(hlive:∀c:Nat,P'.live c=if (c:Int)=z then none else P.live c)
  (hgood:∀c x,P'.L c=some x->x.good) (hok:P'.ok) :
  Pool (setBlock w1 m (.map (Ye z l).toArray clock)) p d S T P'/\Turn S w (setBlock w1 m (.map (Ye z l).toArray clock)):=by
 have K:=L.mlt;have M:=t.size;have q:Turn (λk=>k=m) w1 (setBlock w1 m (.map (Ye z l).toArray clock)):=q0t _ rfl;have u:(setBlock w1 m (.map (Ye z l).toArray clock)).1[m]?=some (.map (Ye z l).toArray clock):=q2a (by omega);generalize setBlock w1 m (.map (Ye z l).toArray clock)=O at q u ⊢;have f:∀k,k<w.1.size->k≠m->¬Sc k->O.1[k]?=w.1[k]?:=λk y D E=>(q.block k (by omega) D).trans (t.block k y E)
 have F:=f p L.Nw L.p_m (λh=>(L.ne p h).1 rfl);refine⟨⟨m,cur,Ye z l,clock,v,Sc,F.trans L.me,hS▸L.ph,?_,u,L.ents.del z,λc=>?_,λe J=>?_,λc x h=>?_,hgood,L.Yl,L.ne,L.sub,hok,hS▸L.Fh⟩,(t.mono L.Yl.2.2).trans q λk y=>by rw[y];exact .inl L.Yl.2.1⟩
 ·exact C1.keep (q.block p (by have:=L.Nw;omega) L.p_m) λk y G=>q.block k y λe=>(L.ne k G).2 e
 ·rw[q9p _ L.ents.one,hlive c];by_cases e:(c:Int)=z
  ·rw[AA e,AA e];rfl
  ·rw[AB e,AB e];exact L.look c
 ·rw[hn];exact L.keys e (q69 J)
 ·rw[hlive c] at h;split at h
  ·cases h
  ·obtain⟨g,H,I,G,A⟩:=L.row c x h;exact⟨g,H,I,PL.keep.stay_slice G (by have:=q.size;omega) λB=>f g B (λe=>A (by rw[e];exact L.sub m L.Yl.2.1)) λh=>A (L.sub g (L.Yl.2.2 g h)),A⟩
end
theorem qw1 {P:Pl}{a:Nat}(h:P.C.pick=some a)(b:Bk)(c:Nat):(P.lay b).live c=if c=a then some b else P.live c:=by
 unfold Pl.live;by_cases f:c<P.C.n
 ·rw[qje h b c f,qjf h b c];by_cases e:c=a
  ·rw[AA e,AA e,AA e,AB (by omega)]
  ·rw[AB e,AB e,AB e]
 ·have y:=(Ct.Yw h).1;have e:c≠a:=by omega
  have q:P.C.get (c:Int)=0:=by unfold Ct.get;rw[AB (by omega)]
  have u:(P.lay b).C.get (c:Int)=0:=by unfold Ct.get;rw[qvr,AB (by omega)]
  rw[q,u,AB e,AA rfl,AA rfl]
section
variable {w:WD}{p d:Nat}{S T:NP}{P:Pl}
theorem q5h (H:Pool w p d S T P)(a x:Int)(q:P.C.get a=x) :
  Calls prog 105 #[.pointer (some ⟨p,0,none⟩),.int .i64 a] w λe u=>e=.returned (.int .i64 x)/\w=u:=by
 obtain⟨m,cur,l,clock,v,Sc,L⟩:=H;have f:=q2t L.ct a x q;go_enter func105,ntmps105
 go_wp2_with fail
 refine f.mono ?_;rintro e w1 ⟨rfl,rfl⟩;go_wp2;go_ret;exact⟨rfl,rfl⟩
end
theorem PL.ld {w:WD}{p d m clock:Nat}{cur:Array Value}{l:List MapEntry}{v:Nat->Value}{Sc S T:NP}{P:Pl}(L:PL w p d m cur l clock v Sc S T P):(ldS (.pointer (some ⟨p,1,none⟩))).run prog w=.ok (.agg P.S.vs.toArray) w:=
 run_loadAt_mid w p 1 103 P.S.vs _ L.sup underlying103 rfl (by rw[P.S.Zh];kernel_rfl)
section
attribute [local go_sem ↓] q1w q5b
end
end
section
open Go.ChangeMaps (setBlock)
theorem qev {P:Pl}(h:P.C.pick=none)(b:Bk):P.lay b=P:=by unfold Pl.lay;rw[h]
theorem qw2 {P:Pl}{b:Bk}(u:b.good)(h:∀c x,P.L c=some x->x.good):∀c x,(P.lay b).L c=some x->x.good:=λc x f=>by
 cases q:P.C.pick with
 |none=>rw[qev q] at f;exact h c x f
 |some a=>
  rw[qjf q] at f;split at f
  ·injection f with f;exact f▸u
  ·exact h c x f
theorem qgy (C:Ct)(a:Int)(c:Nat):(C.Qw a).get (c:Int)=if (c:Int)=a then C.J6 a else C.get (c:Int):=by
 by_cases h0:C.get a=0
 ·have f:C.Qw a=C:=by unfold Ct.Qw;rw[AA h0]
  have q:C.J6 a=0:=by unfold Ct.J6;rw[AA h0]
  rw[f,q];by_cases e:(c:Int)=a
  ·rw[AA e,e,h0]
  ·rw[AB e]
 ·have f:C.Qw a=C.put a.toNat (C.get a-1):=by unfold Ct.Qw;rw[AB h0]
  have q:C.J6 a=C.get a-1:=by unfold Ct.J6;rw[AB h0]
  have A:0<=a/\a<(C.n:Int):=Classical.byContradiction λh=>h0 (by unfold Ct.get;rw[AB h])
  obtain⟨V,u⟩:∃V,C.get a-1=V:=⟨_,rfl⟩;rw[f,q,u];by_cases y:c<C.n
  ·have h1:(C.put a.toNat V).get (c:Int)=nm (C.put a.toNat V).now c:=by unfold Ct.get;rw[C.Zk,AA (by omega),AJ]
   have h2:C.get (c:Int)=nm C.now c:=by unfold Ct.get;rw[AA (by omega),AJ]
   rw[h1,h2,q6e _ _ _ _ y];by_cases e:c=a.toNat
   ·rw[AA e,AA (by omega)]
   ·rw[AB e,AB (by omega)]
  ·have h1:(C.put a.toNat V).get (c:Int)=0:=by unfold Ct.get;rw[C.Zk,AB (by omega)]
   have h2:C.get (c:Int)=0:=by unfold Ct.get;rw[AB (by omega)]
   rw[h1,h2,AB (by omega)]
theorem qd4 {C:Ct}{a:Int}(h:C.J6 a≠0):C.get a≠0:=λh0=>h (by unfold Ct.J6;rw[AA h0])
theorem qoh (P:Pl)(a:Int)(c:Nat):Pl.live ⟨P.S,P.C.Qw a,P.L⟩ c=if (c:Int)=a/\P.C.J6 a=0 then none else P.live c:=by
 show (if (P.C.Qw a).get (c:Int)=0 then none else P.L c)=if (c:Int)=a/\P.C.J6 a=0 then none else (if P.C.get (c:Int)=0 then none else P.L c)
 rw[qgy];by_cases e:(c:Int)=a
 ·rw[AA e];by_cases h:P.C.J6 a=0
  ·rw[AA h,AA ⟨e,h⟩]
  ·rw[AB h,AB λh2=>h h2.2,e,AB (qd4 h)]
 ·have f:¬((c:Int)=a/\P.C.J6 a=0):=λh2=>e h2.1
  rw[AB e,AB f]
theorem qw3 {P:Pl}(h:P.ok)(a:Int):Pl.ok ⟨P.S,P.C.Qw a,P.L⟩:=
 ⟨Ct.Tm h.c a,Ct.Tq h.res a,h.may,by show P.S.Qb=((P.C.Qw a).n:Int);rw[Ct.Ir];exact h.sec,h.gen,h.fine⟩
theorem qoi {w:WD}{p d:Nat}{S T:NP}{P:Pl}(H:Pool w p d S T P)(a:Int) :
  Calls prog 193 #[.pointer (some ⟨p,0,none⟩),.int .i64 a] w λe Z=>e=.returned (.tuple #[.int .i64 (P.C.J6 a),.int .i64 (P.C.Jw a)])/\Pool Z p d S T ⟨P.S,P.C.Qw a,P.L⟩/\Turn S w Z:=by
 have W:=H.ok;obtain⟨m,cur,l,clock,v,Sc,L⟩:=H;have f:=qnw L.ct a;have q:=qoh P a;have y:=qgy P.C a;have A:=qd4 (C:=P.C) (a:=a);have G:=qw3 W a;obtain⟨V,Q⟩:∃V,P.C.J6 a=V:=⟨_,rfl⟩;obtain⟨E,Y⟩:∃E,P.C.Jw a=E:=⟨_,rfl⟩;rw[Q] at f q A ⊢;simp only[Q] at y;rw[Y] at f ⊢;have F:=HI f;have K:=HI q;have D:=HI G;have M:=HI y;have O:=HI A;have a6:=L.Nw;have a2:=L.mlt;clear f q G Q Y y A;by_cases h0:V=0
 ·have nb:(V==0)=true:=by simpa using h0
  have I:=HI h0;clear h0;go_enter func193,ntmps193
  go_wp2_with fail
  refine F.out.mono ?_;rintro e w1 ⟨rfl,J,B⟩;have X:=B.block p L.Nw λh=>(L.ne p h).1 rfl
  have U:=B.block m L.mlt λh=>(L.ne m h).2 rfl
  have a7:w1.cell? ⟨p,40,none⟩=some (.map (some m)):=(AY (a:=⟨p,40,none⟩) X).trans L.c40;have a1:=λu ty=>q4m (P:=prog) (t:=111) (k:=3) (e:=48) L.ents underlying111 underlying3 (U.trans L.map) a u ty
  obtain⟨R1,R2⟩:=L.drop (P':=⟨P.S,P.C.Qw a,P.L⟩) (z:=a) B J (Ct.Ir _ _) rfl (λc=>by rw[K.out c];simp only[I.out,and_true]) L.good D.out;go_wp2;go_ret2;exact⟨rfl,R1,R2⟩
 ·have nb:(V==0)=false:=by simpa using h0
  have I:=HI h0;clear h0;go_enter func193,ntmps193
  go_wp2_with fail
  refine F.out.mono ?_;rintro e w1 ⟨rfl,J,B⟩;have R:=L.Qb7 B J (Ct.Ir _ _) (λc=>?_) D.out
  ·go_wp2;go_ret2;exact⟨rfl,⟨m,cur,l,clock,v,Sc,R⟩,B.mono L.Yl.2.2⟩
  ·rw[M.out c];by_cases e:(c:Int)=a
   ·rw[AA e,e];exact⟨λh=>absurd h I.out,λh=>absurd h (O.out I.out)⟩
   ·rw[AB e]
end
section
variable {w:WD}{p d:Nat}{S T:NP}{P:Pl}
theorem qw4 (H:Pool w p d S T P)(a:Int)(h0:P.C.get a=0) :
  Calls prog 58 #[.pointer (some ⟨p,0,none⟩),.int .i64 a] w λe q=>e=.returned (.tuple #[.slice none 0 0,.int .i64 0,.int .i64 1])/\w=q:=by
 have f:=q5h H a 0 h0;go_enter func58,ntmps58
 go_wp2_with (first
  |(go_at_call 105;refine f.mono ?_;rintro e w1 ⟨rfl,rfl⟩)
  |fail)
 go_ret3;exact⟨rfl,rfl⟩
theorem qoj (H:Pool w p d S T P)(a:Nat)(b:Bk)(q:P.live a=some b) :
  Calls prog 58 #[.pointer (some ⟨p,0,none⟩),.int .i64 (a:Int)] w λe B=>∃A n c,e=.returned (.tuple #[.slice A n c,.int .i64 1,.int .i64 0])/\Sl B A n c (b.out a 0)/\Below w.1.size w B:=by
 obtain⟨x,y⟩:∃x,P.C.get (a:Int)=x:=⟨_,rfl⟩;have u:x≠0:=λh=>by unfold Pl.live at q;rw[AA (y.trans h)] at q;cases q
 have D:=q5h H (a:Int) x y;have I:(x==0)=false:=by simpa using u
 obtain⟨m,cur,l,clock,v,Sc,L⟩:=H;obtain⟨g,c,F,E,_⟩:=L.row a b q;have G:=L.c40;have f:=q4k L.ents underlying111 underlying3 (Tryz.zeroValue48 w) L.map (a:Int);rw[L.look a,q,F] at f;replace f:(Instr.lookup 111 (.map (some m)) (.int .i64 (a:Int)) true).run prog w=.ok (.tuple #[.slice (some ⟨g,0,none⟩) 256 c,.bool true]) w:=f;clear y u q;go_enter func58,ntmps58
 go_wp2_with (first
  |(go_at_call 105;refine D.mono ?_;rintro e w1 ⟨rfl,rfl⟩)
  |fail)
 go_ret3;exact⟨_,_,_,rfl,E,AI _ _⟩
theorem qau {G:NP}{D:DM}(E:Vk w d G D)(H:Pool w p d S T P)(a:Nat)(h0:P.C.get (a:Int)≠0)(y:P.live a=none) :
  Calls prog 58 #[.pointer (some ⟨p,0,none⟩),.int .i64 (a:Int)] w λe B=>∃A n c,e=.returned (.tuple #[.slice A n c,.int .i64 5,.int .i64 (D.Xp (a:Int))])/\Sl B A n c (D.Xv (a:Int))/\Below w.1.size w B:=by
 obtain⟨x,u⟩:∃x,P.C.get (a:Int)=x:=⟨_,rfl⟩;rw[u] at h0;have J:=q5h H (a:Int) x u;have O:(x==0)=false:=by simpa using h0
 obtain⟨m,cur,l,clock,v,Sc,L⟩:=H;have K:=L.c40;have Q:=L.c0;have f:=q4k L.ents underlying111 underlying3 (Tryz.zeroValue48 w) L.map (a:Int);rw[L.look a,y] at f;replace f:(Instr.lookup 111 (.map (some m)) (.int .i64 (a:Int)) true).run prog w=.ok (.tuple #[.slice none 0 0,.bool false]) w:=f;obtain⟨_,_,_,_,_,F⟩:=E;have q:=q9s F (a:Int);clear u h0 y;go_enter func58,ntmps58
 go_wp2_with (first
  |(go_at_call 105;refine J.mono ?_;rintro e w1 ⟨rfl,rfl⟩)
  |(go_at_call 82;refine q.mono ?_;rintro e w2 ⟨A,n,rfl,M,_,I,_⟩)
  |fail)
 go_ret3;exact⟨_,_,_,rfl,M,I⟩
end
section
theorem qrc (n:Nat):Yp n=Vq n++Ub (Ct.zero n) (fmtS n):=by
 unfold Yp Qan fmtC Ub Gf;rw[Ct.Zd];show Vq n++(Ez (Qp n 1) (Wh (Ct.zero n) 1)++[.fl]++[.w 1 (swB (fmtS n) 1),.fl])=Vq n++(Ez (Qp n 1) (Wh (Ct.zero n) 1)++.fl::[.w 1 (swB (fmtS n) 1),.fl]);rw[AM];rfl
theorem qA8 (g x:Int)(w:WD):(bdS #[(0,.int .i64 g),(1,.int .i64 x)]).run prog w=.ok (.agg (sp0 g x 0).vs.toArray) w:=by
 show (Instr.build 103 #[(0,.int .i64 g),(1,.int .i64 x)]).run prog w=_;kernel_rfl
structure Qaf (w0 w:WD)(p d q:Nat)(S0:NP)(D:DM)(P:Pl):Prop where
 turn:Turn S0 w0 w
 Aq:Vk w d (λk=>(S0 k\/w0.heap.size<=k)/\k<q) D
 pool:∀T:NP,(∀k,q<=k->T k)->Pool w p d (λk=>q<=k) T P
 ge:w0.heap.size<=q/\q<=w.heap.size
attribute [local go_sem ↓] q9r
theorem qjm {w:WD}{d:Nat}{X:NP}{D:DM}(L:Vk w d X D)(Q:D.free)(hG:¬X 1)(ht:Tab w){m:Nat}(b3:D.Ya m)(hm:m<=700000) :
  Calls prog 15 #[.pointer (some ⟨d,0,none⟩)] w λe w'=>∃p q,e=.returned (.tuple #[.pointer (some ⟨p,0,none⟩),.int .i64 0])/\Qaf w w' p d q X (D.Qj (Yp D.n)) (Pl.fresh D.n):=by
 have f:=L.Qb;unfold Qb at f;obtain⟨M,u,_⟩:=qll f.1 f.2 rfl Q;obtain⟨n,hn⟩:∃n,D.n=n:=⟨_,rfl⟩;rw[hn] at M u f ⊢;rw[qrc] at M;have G:D.Zv (Vq n)=0:=Classical.byContradiction λh=>h (by
  have:=(q37 (l':=Ub (Ct.zero n) (fmtS n)) h).1;rw[this] at M;exact M)
 have O:(D.Qj (Vq n)).Zv (Ub (Ct.zero n) (fmtS n))=0:=by rw[q32,AA G] at M;exact M
 have I:D.Qj (Yp n)=(D.Qj (Vq n)).Qj (Ub (Ct.zero n) (fmtS n)):=by rw[qrc,q33,AA G]
 have E:=qof L b3 (by omega);rw[hn] at E;have a7:D.Xx (Vq n)=true:=AL G;rw[a7] at E;obtain⟨D1,H⟩:∃x,D.Qj (Vq n)=x:=⟨_,rfl⟩;obtain⟨D2,B⟩:∃x,D.Qj (Yp n)=x:=⟨_,rfl⟩;have b1:D1.n=n:=by rw[<-H,qA6];exact hn
 have R:D2.n=n:=by rw[<-B,qA6];exact hn
 have c8:D1.Ya (m+3):=by rw[<-H];exact q3j _ b3
 rw[H] at E O I;rw[B] at u I ⊢;have a8:D1.Xx (Ub (Ct.zero n) (fmtS n))=true:=AL O;have A:=q94 u;rw[R] at A;have b0:(Ad D2.newest).gen<1099511627775:=by rw[A.2.1];show (1:Int)<1099511627775;omega
 have hP:Pl.Vy D2.newest n=Pl.fresh n:=by
  unfold Pl.Vy Pl.fresh;rw[A.2.1];have:O8 D2.newest n (fmtS n).gen=Ct.zero n:=by
   have h:=A.2.2;have e:(Ct.zero n).commit=Ct.zero n:=rfl;rw[e] at h;exact h
  rw[this]
 have J:=u.free.on;have b9:=HI A.1;have b7:=HI E;have b6:=HI a8;have b5:=HI I;have HP:=HI hP;have b8:=HI b0;have Z:=HI J;have Y:=HI b1;have c6:=HI R;have HG:=HI hG;have c9:=qA8 1 (n:Int);have d1:=ht.1;clear E a8 I hP b0 J b1 R A a7 O G M u hG hn H B;go_enter func15,ntmps15
 go_wp2_with fail
 refine b7.out.mono ?_;rintro e w1 ⟨rfl,W⟩;have t1:=ht.turned W.turn HG.out;have Ly:=W.Aq.tight;obtain⟨_,_,_,_,_,a1⟩:=Ly;have y:=qa3 a1;rw[Y.out] at y;have c7:=HI y;clear y a1;go_wp2_with (first
  |(go_at_call 45;refine c7.out.mono ?_;rintro e w2 ⟨rfl,rfl⟩)
  |fail)
 refine (qel n f.1 f.2 w1).mono ?_;rintro e w2 ⟨pc,rfl,C2,d0,b2⟩;have K:=W.Aq.tight.below b2;have t2:=t1.below b2 t1.1;have z1:=W.turn.size;have z2:=b2.size;obtain⟨_,_,_,_,_,a2⟩:=K;have y:=qa3 a2;have K:=W.Aq.tight.below b2;rw[Y.out] at y;have a6:=HI y;clear y a2;go_wp2_with (first
  |(go_at_call 45;refine a6.out.mono ?_;rintro e w3 ⟨rfl,rfl⟩)
  |fail)
 have V:=qat K C2 (λk F=>⟨by have:=F.2;omega,λh=>by have:=F.2;omega⟩) (λh=>h.1.elim HG.out λh2=>by omega) (fmtS n) (q5e f.1 f.2) (qeu (q5e f.1 f.2)) (by rw[Ct.Zd];rfl) t2 c8 (by omega);rw[b6.out,<-b5.out] at V;refine V.mono ?_;rintro e w3 ⟨rfl,L3⟩;clear V;have t3:=t2.turned L3.turn λh=>h.1.elim HG.out λh2=>by omega
 have z3:=L3.turn.size;go_wp2_with fail
 refine (qog L3.Aq t3 b8.out).mono ?_;rw[Z.out,c6.out,HP.out,b9.out];rintro e w4 ⟨⟨_,p,rfl,U,hp⟩|⟨h,_⟩,b4⟩
 ·go_wp2;go_ret2;refine⟨p,w3.1.size,rfl,?_,?_,U,by omega,b4.size⟩
  ·have T2:Turn X w w2:=W.turn.trans (Qz b2) λk F=>.inl F
   have T3:Turn X w w3:=T2.trans L3.turn λk F=>F.1.elim .inl λh=>.inr h
   exact T3.trans (Qz b4) λk F=>.inl F
  ·exact ((L3.Aq.mono (S':=λk=>(X k\/w.1.size<=k)/\k<w3.1.size) λk F h=>⟨h.elim (λh=>h.1) λh=>.inr (by omega),F⟩).below b4)
 ·exact absurd rfl h
end
