/- The code's pool: load. -/
import Derived.Test.YtnjacafcocnicaaGreatDoorDv22
namespace Go.Proofs.YtnjacafcocnicaaGreatDoor
open Go Go.RowKit Go.Proofs Tryz
set_option maxHeartbeats 8000000
set_option maxRecDepth 100000
def Hd.same (a b:Hd):Bool:=a.kind==b.kind&&(a.addr==b.addr&&(a.count==b.count&&(a.level==b.level&&a.gen==b.gen)))
theorem Hd.same_iff (a b:Hd):a.same b=true↔a=b:=by
 unfold Hd.same;simp only[BN,beq_iff_eq];constructor
 ·rintro⟨h1,h2,e,f,m⟩
  cases a;cases b;simp_all
 ·rintro rfl;simp
theorem qyb (d:Nat)(a b:Hd)(w:WD):(Op.equalIn (d+2) 153 a.v b.v).run prog w=.ok (a.same b) w:=by
 unfold Hd.v;rw[run_equalIn_agg w (d+1) 153 _ _ (by kernel_rfl) (by kernel_rfl)];unfold Program.fieldsOf;rw[underlying153];simp[go_sem,underlying3];unfold Hd.same;by_cases h1:a.kind=b.kind
 ·by_cases h2:a.addr=b.addr
  ·by_cases e:a.count=b.count
   ·by_cases f:a.level=b.level
    ·by_cases m:a.gen=b.gen
     ·simp[h1,h2,e,f,m]
     ·simp[h1,h2,e,f,m]
    ·simp[h1,h2,e,f]
   ·simp[h1,h2,e]
  ·simp[h1,h2]
 ·simp[h1]
theorem qCo (a b:Hd)(r:Bool)(h:a.same b=r)(w:WD):(binOp .neq 153 (.agg #[.int .i64 a.kind,.int .i64 a.addr,.int .i64 a.count,.int .i64 a.level,.int .i64 a.gen]) (.agg #[.int .i64 b.kind,.int .i64 b.addr,.int .i64 b.count,.int .i64 b.level,.int .i64 b.gen])).run prog w=.ok (.bool (!r)) w:=by
 rw[run_neq_struct];have:=qyb 9998 a b w;unfold Hd.v at this;rw[this,h];rfl
theorem qCp (e:BinOp)(x y:Operand)(xs f:Array Value)(w:WD):(eqGuard e 153 x y (.agg xs) (.agg f)).run prog w=.ok () w:=
 run_eqGuard_agg w e 153 x y xs f (by kernel_rfl)
theorem qng {x:LU}{a:Nat}{g:Int}:Vf x a g=(okB x&&(Yz x).same ⟨2,(a:Int),0,0,g⟩):=by
 cases e:okB x
 ·unfold Vf Qam;rw[e];rfl
 ·rw[Bool.true_and,Bool.eq_iff_iff,Hd.same_iff];unfold Vf Qam;rw[e,Bool.true_and,BN];constructor
  ·rintro⟨h1,h2⟩;obtain⟨f,m⟩:=AK h1;obtain⟨p,q,u⟩:=AK h2
   cases y:Yz x;rw[y] at f m p q u;simp_all
  ·intro h;rw[h];exact⟨AL ⟨rfl,rfl⟩,AL ⟨rfl,rfl,rfl⟩⟩
def mkP (a b:Value):Sem Value:=Instr.makeSlice 232 a b
theorem qyc (a b:Value):Instr.makeSlice 232 a b=mkP a b:=rfl
def Qaq (n:Nat)(w:WD):WD:=w.alloc (.cells (madeCells #[.slice none 0 0] (n*1)) 48)
theorem qBg (n:Nat)(hn:n<=1000)(w:WD):(mkP (.int .i64 (n:Int)) (.int .i64 (n:Int))).run prog w=.ok (.slice (some ⟨w.1.size,0,none⟩) n n) (Qaq n w):=by
 obtain⟨i,hi,f,e,m⟩:=info_parts (show (prog.info? 48).map (λi=>(i.zero,i.size,i.bytes))=some (some (.slice none 0 0),1,24) by kernel_rfl);have h:=run_makeSlice (P:=prog) w 232 48 i _ underlying232 hi f .i64 .i64 n n (by omega) (by omega) (by rw[e,AJ];omega) (by rw[m];omega) (by omega);rw[e] at h;exact h
theorem qyd (n:Nat)(w:WD):(Qaq n w).1[w.1.size]?=some (.cells (madeCells #[.slice none 0 0] (n*1)) 48 (0,0)):=BE w _
def BR (w:WD)(b n j:Nat)(p:Nat->LU):Prop:=∃e:Array Value,w.1[b]?=some (.cells e 48 (0,0))/\e.size=n/\∀i,i<j->∃A m c,e[i]?=some (.slice A m c)/\Sl w A m c (p i)/\∀f,A=some f->f.block≠b
theorem BR.lt {w:WD}{b n j:Nat}{ls:Nat->LU}(H:BR w b n j ls):b<w.1.size:=by
 obtain⟨e,h,_⟩:=H;exact Ky h
theorem BR.below {w w':WD}{b n j:Nat}{ls:Nat->LU}(H:BR w b n j ls)(hb:Below w.1.size w w'):BR w' b n j ls:=by
 obtain⟨f,h,h2,q⟩:=H;refine⟨f,(hb.block b (Ky h)).trans h,h2,λi hi=>?_⟩;obtain⟨A,m,c,e,u,p⟩:=q i hi;exact⟨A,m,c,e,u.below hb,p⟩
theorem BR.at_ {w:WD}{b n j:Nat}{ls:Nat->LU}(H:BR w b n j ls){i:Nat}(hi:i<n):(∃v,w.cell? ⟨b,i,none⟩=some v)/\w.frozen? ⟨b,i,none⟩=false:=by
 obtain⟨e,h,h2,_⟩:=H;refine⟨⟨e[i],?_⟩,by unfold World.frozen?;rw[h];simp⟩;rw[cell_of_row _ _ _ _ _ _ h,Array.getElem?_eq_getElem (by omega)]
theorem BR.Vo {w:WD}{b n j:Nat}{ls:Nat->LU}(H:BR w b n j ls)(hj:j<n){A:OA}{m c:Nat}(hs:Sl w A m c (ls j))(hA:∀f,A=some f->f.block≠b):BR (w.setCell ⟨b,j,none⟩ (.slice A m c)) b n (j+1) ls:=by
 obtain⟨q,h,h2,E⟩:=H;have T:Turn (λk=>k=b) w (w.setCell ⟨b,j,none⟩ (.slice A m c)):=Gw (a:=⟨b,j,none⟩) _ rfl;refine⟨_,heap_setCell_same w b j q _ _ h,by simp[h2],λi hi=>?_⟩;by_cases e:i=j
 ·subst e;exact⟨A,m,c,by simp[h2,hj],qam hs T λf e=>hA f e,hA⟩
 ·obtain⟨y,F,B,D,u,p⟩:=E i (by omega);exact⟨y,F,B,by rw[Array.getElem?_setIfInBounds_ne (Ne.symm e)];exact D,qam u T λf e=>p f e,p⟩
theorem BR.parts {w:WD}{b n:Nat}{ls:Nat->LU}(H:BR w b n n ls)(hn:n<=1000):Parts w (some ⟨b,0,none⟩) n n ((List.range n).map ls):=by
 have p:=H.lt;obtain⟨u,h,h2,y⟩:=H;refine⟨by simp,AE _,by unfold maxLen;omega,λj l f=>?_⟩;have q:j<n:=by have:=(List.getElem?_eq_some_iff.1 f).1;simpa using this
 rw[BA,List.getElem?_range q] at f;obtain rfl:ls j=l:=by simpa using f
 obtain⟨A,m,c,e,B,_⟩:=y j q;refine⟨_,A,m,c,rfl,p,?_,B⟩;rw[show (⟨b,0,none⟩:Addr).add j=⟨b,j,none⟩ by simp[Addr.add];exact λh=>h.symm,cell_of_row _ _ _ _ _ _ h];exact e
theorem qfy {D:DM}(e:D.off=false){s:Nat}(f:s<D.n):D.Xv (s:Int)=D.newest s/\D.Xp (s:Int)=0:=by
 unfold DM.Xv DM.Xp;have h:0<=(s:Int)/\(s:Int)<(D.n:Int):=by omega
 rw[e];simp only[Bool.false_eq_true,if_false];rw[AA h,AA h,AJ];exact⟨rfl,rfl⟩
attribute [local go_sem ↓] q1w qyc
theorem qui {w:WD}{d:Nat}{S0:NP}{D:DM}(L:Vk w d S0 D)(f0:D.off=false)(S:Sp)(c6:S.may=true)(a8:S.Qb=(D.n:Int))(ht:Tab w) :
  Calls prog 84 #[.pointer (some ⟨d,0,none⟩),.agg S.vs.toArray] w λe w'=>
   ((((∀i,i<Qg D.n->Vf (D.newest (Qp D.n S.gen+i)) (Qp D.n S.gen+i) S.gen=true)/\Xm (D.n:Int) (mtB D.newest D.n S.gen)=0)/\∃p,e=.returned (.tuple #[.pointer (some ⟨p,0,none⟩),.int .i64 0])/\Y1 w' p 0 (λk=>w.1.size<=k) (O8 D.newest D.n S.gen)/\w.1.size<=p)\/
    (¬((∀i,i<Qg D.n->Vf (D.newest (Qp D.n S.gen+i)) (Qp D.n S.gen+i) S.gen=true)/\Xm (D.n:Int) (mtB D.newest D.n S.gen)=0)/\∃E,E≠0/\e=.returned (.tuple #[.pointer none,.int .i64 E])))/\Below w.1.size w w':=by
 have b6:=L.Qb;unfold Qb at b6;have a6:=(q11 c6).1;have hg:Wy S.gen:=⟨a6.1,a6.2.1⟩;obtain⟨g,Z⟩:∃g,S.gen=g:=⟨_,rfl⟩;rw[Z] at hg ⊢;have d1:=λi hi=>q34 b6.1 b6.2 g (i:=i) hi
 obtain⟨F,Q⟩:∃m,Qg D.n=m:=⟨_,rfl⟩;have f2:F<=18:=by unfold Qg at Q;omega
 obtain⟨a,ha⟩:∃a,Qp D.n g=a:=⟨_,rfl⟩;have hA:=qgx S D.n a8 b6.2 ⟨by rw[Z];have:=hg.1;omega,by rw[Z];have:=hg.2;omega⟩;rw[Z,ha,Q] at hA;rw[ha,Q] at d1;have hB:mtB D.newest D.n g=(List.range F).map λi=>(D.newest (a+i)).drop 20:=by unfold mtB;rw[Q,ha]
 have hC:O8 D.newest D.n g=Ui D.n (mtB D.newest D.n g):=rfl;rw[hC,hB,ha,Q];generalize hG:((∀i,i<F->Vf (D.newest (a+i)) (a+i) g=true)/\Xm (D.n:Int) ((List.range F).map λi=>(D.newest (a+i)).drop 20)=0)=G;have HG:=HI hG;have HA:=HI hA;have e6:=HI d1;have e0:=λw' (H:SB w' w.1.size S)=>H.ld
 have q1:=λw' (H:SB w' w.1.size S)=>H.c1
 have q0:=λw' (H:SB w' w.1.size S)=>H.c0
 rw[a8] at q1;rw[Z] at q0;have f9:=HI e0;have Q0:=HI q0;have Q1:=HI q1;have X1:=SB.new w S 103;have b1:Below w.1.size w (w.alloc (.cells S.vs.toArray 103)):=Qi;have g8:=ht.1;have L1:=L.tight.below b1;have t1:=ht.below b1 ht.1;have e1:=X1.ld;have e9:=qBg F (by omega);clear hG hA d1 a6 hg a8 c6 Q ha e0 q0 q1 Z L ht hB hC;go_enter func84,ntmps84
 go_wp2_with fail
 generalize w.alloc (.cells S.vs.toArray 103)=w1 at b1 L1 t1 X1 e1 ⊢;refine (HA.out w1).mono ?_;rintro e w2 ⟨rfl,b2⟩;have L2:=L1.below b2;have t2:=t1.below b2 t1.1;have X2:=X1.below b2 X1.lt;have B2:=b1.trans (b2.mono b1.size);clear e1 L1 t1 X1 b1 b2;have b3:Below w2.1.size w2 (Qaq F w2):=Qi;have R3:BR (Qaq F w2) w2.1.size F 0 (λi=>(D.newest (a+i)).drop 20):=⟨_,qyd F w2,by rw[size_madeCells,Nat.mul_one],λi hi=>absurd hi (Nat.not_lt_zero _)⟩;go_wp2_with fail
 have L3:=L2.below b3;have t3:=t2.below b3 t2.1;have X3:=X2.below b3 X2.lt;have B3:=B2.trans (b3.mono B2.size);have f1:w.1.size<w2.1.size:=X2.lt;generalize Qaq F w2=w3 at R3 L3 t3 X3 B3 ⊢;obtain⟨bb,d8⟩:∃b,w2.1.size=b:=⟨_,rfl⟩;rw[d8] at R3 f1 ⊢;clear L2 t2 X2 B2 b3 d8 e9;go_loopw [9,10,11,12,13,14,23] (λ_ _ _ _ _ _ i wr=>∃j:Nat,j<=F/\i=.int .i64 (j:Int)/\(∀q,q<j->Vf (D.newest (a+q)) (a+q) g=true)/\BR wr bb F j (λi=>(D.newest (a+i)).drop 20)/\Vk wr d (λk=>S0 k/\k<w.1.size) D/\Tab wr/\SB wr w.1.size S/\Below w.1.size w wr) (λ_ _ _ _ _ _ i _=>F-(intOf i).toNat)
 case atStart=>exact⟨0,by omega,rfl,λq hq=>absurd hq (Nat.not_lt_zero _),R3,L3,t3,X3,B3⟩
 case round=>
  clear R3 L3 t3 X3 B3;obtain⟨j,hj,rfl,b9,R,L,t,X,B⟩:=hrel;have b8:=HI b9;clear b9;by_cases a7:j<F
  ·have e3:(j:Int)<(F:Int):=by omega
   obtain⟨_,i2,_,i4⟩:=e6.out j a7;obtain⟨s,hs⟩:∃s,a+j=s:=⟨_,rfl⟩;rw[hs] at i2 i4;have g7:(a:Int)+(j:Int)=(s:Int):=by omega
   obtain⟨r1,r2⟩:=qfy f0 i4;obtain⟨x,hx⟩:∃x,D.newest s=x:=⟨_,rfl⟩;rw[hx] at r1;obtain⟨_,_,_,_,_,L'⟩:=L;have d3:=q9s L' (s:Int);rw[r1,r2] at d3;have L:Vk wr d (λk=>S0 k/\k<w.1.size) D:=⟨_,_,_,_,_,L'⟩;have c8:=HI d3;have Hs:=HI hs;have Hx:=HI hx;clear d3 r1 r2 hs hx L'
   cases b0:okB x
   ·have e2:Vf (D.newest (a+j)) (a+j) g=false:=by rw[Hs.out,Hx.out,qng,b0];rfl
    have c7:=HI (show ¬G by rw[<-HG.out];exact λh=>by have:=h.1 j a7;rw[e2] at this;cases this);obtain⟨o1,o2,o3⟩:=qkm b0;clear e2;go_wp2_with (first
     |(go_at_call 82;refine c8.out.mono ?_;rintro e w4 ⟨A4,n4,rfl,s4,_,I,_⟩;have t4:=t.below I t.1)
     |(go_at_call 106;have hO:=q59 A4 n4 n4 x w4 s4 t4;unfold q23 at hO;rw[o1,o2,o3] at hO;refine hO.mono ?_;rintro e f ⟨A5,n5,c5,rfl,K,b5⟩)
     |(refine q4c rfl (.tmp 12) (.tmp 37) rfl f.1.size rfl Hd.zero _ rfl (HB.zero f _) (by simp) ?_;intro y J a2 T6;have O:Below f.1.size f y:=(Qi).trans (a2 _ (AE _));have A:Below wr.1.size wr y:=I.trans ((b5.trans (O.mono b5.size)).mono I.size))
     |fail)
    have B6:=B.trans (A.mono B.size);go_quiet (fail)
    generalize e4:World.drewN y _=w7;have B7:Below w.1.size w w7:=by rw[<-e4];exact⟨B6.os,B6.tape,B6.output,B6.size,B6.block⟩
    clear e4;go_wp2;go_ret2;exact⟨.inr ⟨c7.out,5,by omega,rfl⟩,B7⟩
   ·obtain⟨o1,o2,o3⟩:=q7j b0;obtain⟨H,hH⟩:∃H,Yz x=H:=⟨_,rfl⟩;have o1:Yz x=H:=hH;obtain⟨r,hr⟩:∃r,H.same ⟨2,(s:Int),0,0,g⟩=r:=⟨_,rfl⟩;have d9:Vf (D.newest (a+j)) (a+j) g=r:=by rw[Hs.out,Hx.out,qng,b0,hH,hr];rfl
    have f4:=qCo H ⟨2,(s:Int),0,0,g⟩ r hr;have f3:=qCp;have q0:=Q0.out wr X;have zX:=X.lt;have d6:=HI d9;clear d9 hr hH
    cases r
    ·have c7:=HI (show ¬G by rw[<-HG.out];exact λh=>by have:=h.1 j a7;rw[d6.out] at this;cases this);go_wp2_with (first
      |(go_at_call 82;refine c8.out.mono ?_;rintro e w4 ⟨A4,n4,rfl,s4,_,I,_⟩;have t4:=t.below I t.1)
      |(go_at_call 106;have hO:=q59 A4 n4 n4 x w4 s4 t4;unfold q23 at hO;rw[o1,o2,o3] at hO;refine hO.mono ?_;rintro e f ⟨A5,n5,c5,rfl,K,b5⟩)
      |(refine q4c rfl (.tmp 12) (.tmp 37) rfl f.1.size rfl H _ rfl (HB.zero f _) (by simp) ?_;intro y J a2 T6;have O:Below f.1.size f y:=(Qi).trans (a2 _ (AE _));have A:Below wr.1.size wr y:=I.trans ((b5.trans (O.mono b5.size)).mono I.size))
      |fail)
     have b7:=(A.cell (p:=⟨w.1.size,0,none⟩) zX).trans q0;have d4:w.1.size<y.1.size:=Nat.lt_of_lt_of_le zX A.size;have zH:f.1.size<y.1.size:=by obtain⟨_,h⟩:=J;exact Ky h
     have B6:=B.trans (A.mono B.size);have T:=J.at_ 0;have U:=J.at_ 1;have V:=J.at_ 2;have W:=J.at_ 3;have Y:=J.at_ 4;simp only[Y0,Hd.Fj] at T U V W Y;have g0:∀u:Grown y,u.to.cell? ⟨w.1.size,0,none⟩=some (.int .i64 g):=Grown.cell b7 d4;have g1:∀u:Grown y,u.to.cell? ⟨f.1.size,0,none⟩=some (.int .i64 H.kind):=Grown.cell T zH;have g2:∀u:Grown y,u.to.cell? ⟨f.1.size,3,none⟩=some (.int .i64 H.level):=Grown.cell U zH;have g3:∀u:Grown y,u.to.cell? ⟨f.1.size,1,none⟩=some (.int .i64 H.addr):=Grown.cell V zH;have g4:∀u:Grown y,u.to.cell? ⟨f.1.size,2,none⟩=some (.int .i64 H.count):=Grown.cell W zH;have g5:∀u:Grown y,u.to.cell? ⟨f.1.size,4,none⟩=some (.int .i64 H.gen):=Grown.cell Y zH;refine Ux (by kernel_rfl) (by kernel_rfl) ?_;repeat (go_big_quiet_step (first
      |(go_at_call 78;exact Calls.grown (q77 _ g _))
      |fail))
     refine wpQuiet_nil ?_;rintro _ ⟨u,rfl⟩;have B7:=B6.trans (u.ok.mono B6.size);go_wp2;go_ret2;exact⟨.inr ⟨c7.out,5,by omega,rfl⟩,B7⟩
    ·go_wp2_with (first
      |(go_at_call 82;refine c8.out.mono ?_;rintro e w4 ⟨A4,n4,rfl,s4,_,I,_⟩;have t4:=t.below I t.1)
      |(go_at_call 106;have hO:=q59 A4 n4 n4 x w4 s4 t4;unfold q23 at hO;rw[o1,o2,o3] at hO;refine hO.mono ?_;rintro e f ⟨A5,n5,c5,rfl,K,b5⟩)
      |(refine q4c rfl (.tmp 12) (.tmp 37) rfl f.1.size rfl H _ rfl (HB.zero f _) (by simp) ?_;intro y J a2 T6;have O:Below f.1.size f y:=(Qi).trans (a2 _ (AE _));have A:Below wr.1.size wr y:=I.trans ((b5.trans (O.mono b5.size)).mono I.size))
      |fail)
     have b7:=(A.cell (p:=⟨w.1.size,0,none⟩) zX).trans q0;have d4:w.1.size<y.1.size:=Nat.lt_of_lt_of_le zX A.size;have zH:f.1.size<y.1.size:=by obtain⟨_,h⟩:=J;exact Ky h
     have T:=J.at_ 0;have U:=J.at_ 1;have V:=J.at_ 2;have W:=J.at_ 3;have Y:=J.at_ 4;simp only[Y0,Hd.Fj] at T U V W Y;have g0:∀u:Grown y,u.to.cell? ⟨w.1.size,0,none⟩=some (.int .i64 g):=Grown.cell b7 d4;have g1:∀u:Grown y,u.to.cell? ⟨f.1.size,0,none⟩=some (.int .i64 H.kind):=Grown.cell T zH;have g2:∀u:Grown y,u.to.cell? ⟨f.1.size,3,none⟩=some (.int .i64 H.level):=Grown.cell U zH;have g3:∀u:Grown y,u.to.cell? ⟨f.1.size,1,none⟩=some (.int .i64 H.addr):=Grown.cell V zH;have g4:∀u:Grown y,u.to.cell? ⟨f.1.size,2,none⟩=some (.int .i64 H.count):=Grown.cell W zH;have g5:∀u:Grown y,u.to.cell? ⟨f.1.size,4,none⟩=some (.int .i64 H.gen):=Grown.cell Y zH;refine Ux (by kernel_rfl) (by kernel_rfl) ?_;repeat (go_big_quiet_step (first
      |(go_at_call 78;exact Calls.grown (q77 _ g _))
      |fail))
     refine wpQuiet_nil ?_;rintro _ ⟨u,rfl⟩;have M:Below wr.1.size wr u.to:=A.trans (u.ok.mono A.size);have B7:=B.trans (M.mono B.size);have R7:=R.below M;have s7:Sl u.to A5 n5 c5 ((D.newest (a+j)).drop 20):=by rw[Hs.out,Hx.out,<-o2];exact (o2▸K.sl.below O).below u.ok
     have d7:∀ad,A5=some ad->ad.block≠bb:=λad e=>by have h1:=(K.block ad e).1;have h2:=R.lt;have h3:=I.size;omega
     obtain⟨⟨v7,g9⟩,f7⟩:=R7.at_ a7;have R8:=R7.Vo a7 s7 d7;have L7:=L.below M;have t7:=t.below M t.1;have X7:=X.below M X.lt;have g6:bb<u.to.1.size:=R7.lt;have a1:Turn (λk=>k=bb) u.to (u.to.setCell ⟨bb,j,none⟩ (.slice A5 n5 c5)):=Gw (a:=⟨bb,j,none⟩) _ rfl;have B8:=B7.trans (a1.below (B:=w.1.size) (λk hk=>by omega) (by omega));have L8:=L7.keep λk hk hs=>a1.block k hk λe=>by have:=hs.2;omega
     have t8:=t7.turned a1 (by omega);have X8:=X7.block (a1.block _ X7.lt (by omega));clear R L t X B R7 L7 t7 X7 B7 s7 d7 g0 g1 g2 g3 g4 g5 T U V W Y q0 b7 A M a1;go_wp2;refine⟨⟨j+1,by omega,by go_num,λq hq=>?_,R8,L8,t8,X8,B8⟩,by simp[intOf];omega⟩;by_cases e:q=j
     ·rw[e];exact d6.out
     ·exact b8.out q (by omega)
  ·have e8:j=F:=by omega
   subst e8;have q1:=Q1.out wr X;have P:=R.parts (by omega);have d2:=qqe (D.n:Int) _ _ _ _ P;obtain⟨LE,d0⟩:∃x,Xm (D.n:Int) ((List.range j).map λi=>(D.newest (a+i)).drop 20)=x:=⟨_,rfl⟩;obtain⟨LC,c9⟩:∃x,Ui D.n ((List.range j).map λi=>(D.newest (a+i)).drop 20)=x:=⟨_,rfl⟩;rw[AJ,d0,c9] at d2;have d5:=HI d0;have e5:=HI c9;have e3:¬(j:Int)<(j:Int):=by omega
   have e7:=HI d2;clear d0 c9 d2;go_wp2_with fail
   refine e7.out.mono ?_;rintro e w4 ⟨⟨h0,p,rfl,C4,hp⟩|⟨h0,rfl⟩,I⟩
   ·have hY:=HI (show G by rw[<-HG.out];exact⟨b8.out,d5.out.trans h0⟩);clear h0;go_wp2;go_ret2;have:=B.size;exact⟨.inl ⟨hY.out,p,rfl,by rw[e5.out];exact C4.mono λk hk=>by omega,by omega⟩,B.trans (I.mono B.size)⟩
   ·have hN:=HI (show ¬G by rw[<-HG.out];exact λh=>h0 (d5.out.symm.trans h.2));have H0:=HI h0;clear h0;go_wp2;go_ret2;exact⟨.inr ⟨hN.out,LE,H0.out,rfl⟩,B.trans (I.mono B.size)⟩
