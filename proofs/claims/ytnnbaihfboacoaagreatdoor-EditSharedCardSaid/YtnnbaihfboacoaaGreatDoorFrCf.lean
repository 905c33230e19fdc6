/- The reference's Put into a row of items, with a word of where each value lies. -/
import Derived.Test.YtnnbaihfboacoaaGreatDoorEu10
namespace Go.Proofs.YtnnbaihfboacoaaGreatDoor
open Go Go.RowKit Go.Proofs
set_option maxHeartbeats 32000000
set_option maxRecDepth 100000
theorem qbj (F:Option Addr->List UInt8->Prop)(A:Option Addr)(n c:Nat)(l:List Qc)(k:Kd)(V:Option Addr)(p q:Nat)(v:List UInt8)(w:World)(hI:Zg F w A n c l)(hV:Sl w V p q v)(hn:n<=400)(e4:p<=1000)(c7:∀V v,(∀g,q01 V=some g->w.1.size<=g)->F V v) :
  Calls Tryz.prog 33 #[.slice A n c,.agg #[.int .i64 k.obj,.int .i64 k.kind,.int .i64 k.off],.slice V p q] w λe M=>∃A' n' c',e=.returned (.slice A' n' c')/\Zg F M A' n' c' (Zo k v false l)/\(∀g,q01 A'=some g->w.1.size<=g)/\Below w.1.size w M:=by
 have hl:=Lib.hid hI.Zq.len;have hp:p<=140737488355328:=by omega
 obtain⟨K0,bB⟩:=Xb w k;replace c7:=Lib.hid c7;obtain⟨R,d5⟩:∃R,Zo k v false l=R:=⟨_,rfl⟩;have Z:([]:List Qc)++Zo k v false (l.drop 0)=R:=d5;rw[d5];clear d5;go_enter Tryz.func33,Tryz.ntmps33
 go_wp2_with fail
 generalize d8:w.alloc (.cells #[.int .i64 k.obj,.int .i64 k.kind,.int .i64 k.off] 30)=w1 at K0 bB ⊢;have zw:w1.1.size=w.1.size+1:=by rw[<-d8];simp
 clear d8;have bl:Below w1.1.size w1 (w1.alloc (.cells #[] 68)):=Qm;have J0:=q26 (F:=F) w1;have K1:=K0.below bl K0.lt;have B1:=bB.trans (bl.mono bB.size);have zl:=bl.size;generalize w1.alloc (.cells #[] 68)=w2 at bl J0 K1 B1 zl ⊢;rw[zw] at J0;go_loopw [7,8,9,10] (λlv dn i _ wr=>∃(j m:Nat) (A':Option Addr) (c':Nat) (out:List Qc) (done:Bool),j<=n/\m<=2*j/\i=.int .i64 (j:Int)/\lv=.slice A' m c'/\dn=.bool done/\Je F wr (w.1.size+1) A' m c' out/\out++Zo k v done (l.drop j)=R/\KB wr w.1.size k/\Below w.1.size w wr/\w.1.size+1<=wr.1.size) (λ_ _ i _ _=>n-(intOf i).toNat)
 case atStart=>exact⟨0,0,_,_,[],false,Nat.zero_le _,Nat.le_refl _,rfl,rfl,rfl,J0,Z,K1,B1,by omega⟩
 case round=>
  clear J0 K1 B1 Z K0 bB bl zl;obtain⟨j,m,A',c',out,done,hj,hm,rfl,rfl,rfl,J,Z,K,B,f⟩:=hrel;have HV:=Lib.hid (λ(M:World) (b:Below w.1.size w M)=>hV.below b);have d9:=hV.Qa;by_cases d7:j<n
  ·have c8:=qo9 (k:=k) (v:=v) (done:=done) (l:=l) (j:=j) (by rw[hl.out];exact d7);rw[c8] at Z;obtain⟨g,o,X,xp,xq,rfl,hg,c0,c1,c2,c3,hs⟩:=hI.cell d7;obtain⟨x,hx⟩:∃x,Qj l j=x:=⟨_,rfl⟩;rw[hx] at c0 c1 c2 hs Z;have y:=Lib.hid (λ(M:World) (b:Below w.1.size w M)=>show M.cell? ⟨g,o+j*4,none⟩=some (.int .i64 x.k.obj)/\M.cell? ⟨g,o+j*4+1,none⟩=some (.int .i64 x.k.kind)/\M.cell? ⟨g,o+j*4+2,none⟩=some (.int .i64 x.k.off)/\M.cell? ⟨g,o+j*4+3,none⟩=some (.slice X xp xq)/\Le F M X xp xq x.v from
    ⟨(b.cell (p:=⟨g,_,none⟩) hg).trans c0,(b.cell (p:=⟨g,_,none⟩) hg).trans c1,(b.cell (p:=⟨g,_,none⟩) hg).trans c2,(b.cell (p:=⟨g,_,none⟩) hg).trans c3,hs.below b⟩)
   have e0:(0:Int)<=(j:Int):=by omega
   have e1:(j:Int)<(n:Int):=by omega
   have c9:=hs.1.Qa;clear c0 c1 c2 c3 hs hx c8;have e2:=q5r;have e3:=q9x
   cases h2:x.k.same k with
   |true=>
    cases h1:k.less x.k with
    |true=>
     cases done with
     |true=>
      have H1:=λw=>q17 k x.k true h1 w
      have b6:=O9 x.k k true h2;have b8:=q2b x.k k true false h2 rfl;rw[h1,h2] at Z;clear h1 h2;have W:(out)++Zo k v true (l.drop (j+1))=R:=by rw[<-Z];simp
      clear Z;have G:=λu:Grown wr=>(y.out u.to (B.trans (u.ok.mono B.size))).1
      have H:=λu:Grown wr=>(y.out u.to (B.trans (u.ok.mono B.size))).2.1
      have I:=λu:Grown wr=>(y.out u.to (B.trans (u.ok.mono B.size))).2.2.1
      have O:=λu:Grown wr=>Grown.cell K.c0 K.lt u
      have P:=λu:Grown wr=>Grown.cell K.c1 K.lt u
      have Q:=λu:Grown wr=>Grown.cell K.c2 K.lt u
      go_wp2_with fail
      refine Yc (by kernel_rfl) (by kernel_rfl) ?_;repeat (go_big_quiet_step (fail))
      go_big_quiet_step (first|(go_at_call 66;exact Calls.grown (H1 _))|fail)
      repeat (go_big_quiet_step (fail))
      refine wpQuiet_nil ?_;rintro _ ⟨u,rfl⟩;clear G H I O P Q;replace J:=J.below u.ok;replace K:=K.below u.ok K.lt;replace B:=B.trans (u.ok.mono B.size);replace f:=Nat.le_trans f u.ok.size;generalize u.to=E at J K B f ⊢;clear u;have G:=λu:Grown E=>(y.out u.to (B.trans (u.ok.mono B.size))).1
      have H:=λu:Grown E=>(y.out u.to (B.trans (u.ok.mono B.size))).2.1
      have I:=λu:Grown E=>(y.out u.to (B.trans (u.ok.mono B.size))).2.2.1
      have O:=λu:Grown E=>Grown.cell K.c0 K.lt u
      have P:=λu:Grown E=>Grown.cell K.c1 K.lt u
      have Q:=λu:Grown E=>Grown.cell K.c2 K.lt u
      go_wp2_with fail
      refine Yc (by kernel_rfl) (by kernel_rfl) ?_;repeat (go_big_quiet_step (fail))
      refine wpQuiet_nil ?_;rintro _ ⟨u,rfl⟩;clear G H I O P Q;replace J:=J.below u.ok;replace K:=K.below u.ok K.lt;replace B:=B.trans (u.ok.mono B.size);replace f:=Nat.le_trans f u.ok.size;generalize u.to=d at J K B f ⊢;clear u;have G:=λu:Grown d=>(y.out u.to (B.trans (u.ok.mono B.size))).1
      have H:=λu:Grown d=>(y.out u.to (B.trans (u.ok.mono B.size))).2.1
      have I:=λu:Grown d=>(y.out u.to (B.trans (u.ok.mono B.size))).2.2.1
      have O:=λu:Grown d=>Grown.cell K.c0 K.lt u
      have P:=λu:Grown d=>Grown.cell K.c1 K.lt u
      have Q:=λu:Grown d=>Grown.cell K.c2 K.lt u
      go_wp2_with fail
      refine Yc (by kernel_rfl) (by kernel_rfl) ?_;repeat (go_big_quiet_step (fail))
      refine wpQuiet_nil ?_;rintro _ ⟨u,rfl⟩;clear G H I O P Q;replace J:=J.below u.ok;replace K:=K.below u.ok K.lt;replace B:=B.trans (u.ok.mono B.size);replace f:=Nat.le_trans f u.ok.size;generalize u.to=D at J K B f ⊢;clear u;go_wp2;exact⟨⟨j+1,m,_,_,out,true,by omega,by omega,by go_num,rfl,rfl,J,W,K,B,f⟩,by simp[intOf];omega⟩
     |false=>
      have H1:=λw=>q17 k x.k true h1 w
      have b6:=O9 x.k k true h2;have b8:=q2b x.k k true false h2 rfl;rw[h1,h2] at Z;clear h1 h2;have W:(out++[⟨k,v⟩])++Zo k v true (l.drop (j+1))=R:=by rw[<-Z];simp
      clear Z;have G:=λu:Grown wr=>(y.out u.to (B.trans (u.ok.mono B.size))).1
      have H:=λu:Grown wr=>(y.out u.to (B.trans (u.ok.mono B.size))).2.1
      have I:=λu:Grown wr=>(y.out u.to (B.trans (u.ok.mono B.size))).2.2.1
      have O:=λu:Grown wr=>Grown.cell K.c0 K.lt u
      have P:=λu:Grown wr=>Grown.cell K.c1 K.lt u
      have Q:=λu:Grown wr=>Grown.cell K.c2 K.lt u
      go_wp2_with fail
      refine Yc (by kernel_rfl) (by kernel_rfl) ?_;repeat (go_big_quiet_step (fail))
      go_big_quiet_step (first|(go_at_call 66;exact Calls.grown (H1 _))|fail)
      repeat (go_big_quiet_step (fail))
      refine wpQuiet_nil ?_;rintro _ ⟨u,rfl⟩;clear G H I O P Q;replace J:=J.below u.ok;replace K:=K.below u.ok K.lt;replace B:=B.trans (u.ok.mono B.size);replace f:=Nat.le_trans f u.ok.size;generalize u.to=E at J K B f ⊢;clear u;have G:=λu:Grown E=>(y.out u.to (B.trans (u.ok.mono B.size))).1
      have H:=λu:Grown E=>(y.out u.to (B.trans (u.ok.mono B.size))).2.1
      have I:=λu:Grown E=>(y.out u.to (B.trans (u.ok.mono B.size))).2.2.1
      have O:=λu:Grown E=>Grown.cell K.c0 K.lt u
      have P:=λu:Grown E=>Grown.cell K.c1 K.lt u
      have Q:=λu:Grown E=>Grown.cell K.c2 K.lt u
      go_wp2_with fail
      refine Yc (by kernel_rfl) (by kernel_rfl) ?_;repeat (go_big_quiet_step (fail))
      refine wpQuiet_nil ?_;rintro _ ⟨u,rfl⟩;clear G H I O P Q;replace J:=J.below u.ok;replace K:=K.below u.ok K.lt;replace B:=B.trans (u.ok.mono B.size);replace f:=Nat.le_trans f u.ok.size;generalize u.to=d at J K B f ⊢;clear u;go_wp2_with fail
      have hF:∀M,Below (w.1.size+1) d M->M.cell? ⟨w.1.size,0,none⟩=some (.int .i64 k.obj)/\M.cell? ⟨w.1.size,1,none⟩=some (.int .i64 k.kind)/\M.cell? ⟨w.1.size,2,none⟩=some (.int .i64 k.off):=λM Y=>⟨(K.below Y (by omega)).c0,(K.below Y (by omega)).c1,(K.below Y (by omega)).c2⟩
      have BD:Below d.1.size d d.drew:=(Below.refl _ _).drew;have OE:Own (d.alloc (.cells #[] 5)).drew d.1.size 5 (some ⟨d.1.size,0,none⟩) 0 0 []:=q2s d 5;have BE:Below d.1.size d (d.alloc (.cells #[] 5)).drew:=(Qm).drew;have zE:(d.alloc (.cells #[] 5)).drew.1.size=d.1.size+1:=by simp
      have a8:=HV.out _ (B.trans (BE.mono B.size));have BA:∀o,Below d.1.size d (d.alloc o):=λo=>(Below.refl _ _).alloc (Nat.le_refl _) o
      have b1:d.1.size<=(d.alloc (.cells #[] 5)).drew.1.size:=by omega
      go_region_held3 (λM=>M.cell? ⟨w.1.size,0,none⟩=some (.int .i64 k.obj)/\M.cell? ⟨w.1.size,1,none⟩=some (.int .i64 k.kind)/\M.cell? ⟨w.1.size,2,none⟩=some (.int .i64 k.off))
       (first|assumption|exact hF _ (BD.mono f)|exact hF _ (BE.mono f)|exact hF _ ((BA _).mono f)|exact hF _ a6|exact hF _ a7|exact hF _ U)
       (first
        |(refine q1x _ Gy rfl (.tmp 41) (.tmp 42) rfl d.1.size d.1.size rfl OE V p q v rfl a8 hp b1 ?_;intro A5 c5 w5 T a2;have a6:Below (w.1.size+1) d w5:=(BE.mono f).trans (a2.mono (by omega));have z5:=a2.size;have ba:Below w5.1.size w5 (w5.alloc (.cells #[.int .i64 k.obj,.int .i64 k.kind,.int .i64 k.off,.slice A5 p c5] 68)):=Qm;have a7:=a6.trans (ba.mono (by omega));have J5:=J.below (BE.trans (a2.mono (by omega)));have z6:=ba.size;have b0:w.1.size+1<=(w5.alloc (.cells #[.int .i64 k.obj,.int .i64 k.kind,.int .i64 k.off,.slice A5 p c5] 68)).1.size:=(by omega);have b5:F A5 v:=c7.out A5 v (λb Y=>by have h1:=q2d T b Y;omega);have b4:v≠[]->∀b,q01 A5=some b->q01 A'≠some b:=λ_ b Y e=>by have h1:=q2d T b Y;have h2:=(J.Qa b e).2;omega)
        |(refine q1e rfl (.tmp 39) (.tmp 45) rfl (w.1.size+1) A' m c' out rfl (J5.below ba) (some ⟨w5.1.size,0,none⟩) 1 ⟨k,v⟩ A5 p c5 rfl (q1y w5 k A5 p c5) ⟨T.sl.below ba,b5⟩ b4 (by omega) b0 ?_;intro A6 c6 w8 J7 T7;have U:Below (w.1.size+1) d w8:=a7.trans (T7.below (λk hk=>(J5.Qa k hk).1) b0))
        |fail)
      replace K:=K.below U (by omega);replace B:=B.trans (U.mono (by omega));replace f:=Nat.le_trans f U.size;clear J hF BD OE BE BA zE a8 b1;have J:=J7;clear J7;have G:=λu:Grown w8=>(y.out u.to (B.trans (u.ok.mono B.size))).1
      have H:=λu:Grown w8=>(y.out u.to (B.trans (u.ok.mono B.size))).2.1
      have I:=λu:Grown w8=>(y.out u.to (B.trans (u.ok.mono B.size))).2.2.1
      have O:=λu:Grown w8=>Grown.cell K.c0 K.lt u
      have P:=λu:Grown w8=>Grown.cell K.c1 K.lt u
      have Q:=λu:Grown w8=>Grown.cell K.c2 K.lt u
      go_wp2_with fail
      refine Yc (by kernel_rfl) (by kernel_rfl) ?_;repeat (go_big_quiet_step (fail))
      refine wpQuiet_nil ?_;rintro _ ⟨u,rfl⟩;clear G H I O P Q;replace J:=J.below u.ok;replace K:=K.below u.ok K.lt;replace B:=B.trans (u.ok.mono B.size);replace f:=Nat.le_trans f u.ok.size;generalize u.to=D at J K B f ⊢;clear u;go_wp2;exact⟨⟨j+1,m+1,_,_,out++[⟨k,v⟩],true,by omega,by omega,by go_num,rfl,rfl,J,W,K,B,f⟩,by simp[intOf];omega⟩
    |false=>
     cases done with
     |true=>
      have H1:=λw=>q17 k x.k false h1 w
      have b6:=O9 x.k k true h2;have b8:=q2b x.k k true false h2 rfl;rw[h1,h2] at Z;clear h1 h2;have W:(out)++Zo k v true (l.drop (j+1))=R:=by rw[<-Z];simp
      clear Z;have G:=λu:Grown wr=>(y.out u.to (B.trans (u.ok.mono B.size))).1
      have H:=λu:Grown wr=>(y.out u.to (B.trans (u.ok.mono B.size))).2.1
      have I:=λu:Grown wr=>(y.out u.to (B.trans (u.ok.mono B.size))).2.2.1
      have O:=λu:Grown wr=>Grown.cell K.c0 K.lt u
      have P:=λu:Grown wr=>Grown.cell K.c1 K.lt u
      have Q:=λu:Grown wr=>Grown.cell K.c2 K.lt u
      go_wp2_with fail
      refine Yc (by kernel_rfl) (by kernel_rfl) ?_;repeat (go_big_quiet_step (fail))
      go_big_quiet_step (first|(go_at_call 66;exact Calls.grown (H1 _))|fail)
      repeat (go_big_quiet_step (fail))
      refine wpQuiet_nil ?_;rintro _ ⟨u,rfl⟩;clear G H I O P Q;replace J:=J.below u.ok;replace K:=K.below u.ok K.lt;replace B:=B.trans (u.ok.mono B.size);replace f:=Nat.le_trans f u.ok.size;generalize u.to=E at J K B f ⊢;clear u;have G:=λu:Grown E=>(y.out u.to (B.trans (u.ok.mono B.size))).1
      have H:=λu:Grown E=>(y.out u.to (B.trans (u.ok.mono B.size))).2.1
      have I:=λu:Grown E=>(y.out u.to (B.trans (u.ok.mono B.size))).2.2.1
      have O:=λu:Grown E=>Grown.cell K.c0 K.lt u
      have P:=λu:Grown E=>Grown.cell K.c1 K.lt u
      have Q:=λu:Grown E=>Grown.cell K.c2 K.lt u
      go_wp2_with fail
      refine Yc (by kernel_rfl) (by kernel_rfl) ?_;repeat (go_big_quiet_step (fail))
      refine wpQuiet_nil ?_;rintro _ ⟨u,rfl⟩;clear G H I O P Q;replace J:=J.below u.ok;replace K:=K.below u.ok K.lt;replace B:=B.trans (u.ok.mono B.size);replace f:=Nat.le_trans f u.ok.size;generalize u.to=d at J K B f ⊢;clear u;have G:=λu:Grown d=>(y.out u.to (B.trans (u.ok.mono B.size))).1
      have H:=λu:Grown d=>(y.out u.to (B.trans (u.ok.mono B.size))).2.1
      have I:=λu:Grown d=>(y.out u.to (B.trans (u.ok.mono B.size))).2.2.1
      have O:=λu:Grown d=>Grown.cell K.c0 K.lt u
      have P:=λu:Grown d=>Grown.cell K.c1 K.lt u
      have Q:=λu:Grown d=>Grown.cell K.c2 K.lt u
      go_wp2_with fail
      refine Yc (by kernel_rfl) (by kernel_rfl) ?_;repeat (go_big_quiet_step (fail))
      refine wpQuiet_nil ?_;rintro _ ⟨u,rfl⟩;clear G H I O P Q;replace J:=J.below u.ok;replace K:=K.below u.ok K.lt;replace B:=B.trans (u.ok.mono B.size);replace f:=Nat.le_trans f u.ok.size;generalize u.to=D at J K B f ⊢;clear u;go_wp2;exact⟨⟨j+1,m,_,_,out,true,by omega,by omega,by go_num,rfl,rfl,J,W,K,B,f⟩,by simp[intOf];omega⟩
     |false=>
      have H1:=λw=>q17 k x.k false h1 w
      have b6:=O9 x.k k true h2;have b8:=q2b x.k k true false h2 rfl;rw[h1,h2] at Z;clear h1 h2;have W:(out++[⟨k,v⟩])++Zo k v true (l.drop (j+1))=R:=by rw[<-Z];simp
      clear Z;have G:=λu:Grown wr=>(y.out u.to (B.trans (u.ok.mono B.size))).1
      have H:=λu:Grown wr=>(y.out u.to (B.trans (u.ok.mono B.size))).2.1
      have I:=λu:Grown wr=>(y.out u.to (B.trans (u.ok.mono B.size))).2.2.1
      have O:=λu:Grown wr=>Grown.cell K.c0 K.lt u
      have P:=λu:Grown wr=>Grown.cell K.c1 K.lt u
      have Q:=λu:Grown wr=>Grown.cell K.c2 K.lt u
      go_wp2_with fail
      refine Yc (by kernel_rfl) (by kernel_rfl) ?_;repeat (go_big_quiet_step (fail))
      go_big_quiet_step (first|(go_at_call 66;exact Calls.grown (H1 _))|fail)
      repeat (go_big_quiet_step (fail))
      refine wpQuiet_nil ?_;rintro _ ⟨u,rfl⟩;clear G H I O P Q;replace J:=J.below u.ok;replace K:=K.below u.ok K.lt;replace B:=B.trans (u.ok.mono B.size);replace f:=Nat.le_trans f u.ok.size;generalize u.to=E at J K B f ⊢;clear u;have G:=λu:Grown E=>(y.out u.to (B.trans (u.ok.mono B.size))).1
      have H:=λu:Grown E=>(y.out u.to (B.trans (u.ok.mono B.size))).2.1
      have I:=λu:Grown E=>(y.out u.to (B.trans (u.ok.mono B.size))).2.2.1
      have O:=λu:Grown E=>Grown.cell K.c0 K.lt u
      have P:=λu:Grown E=>Grown.cell K.c1 K.lt u
      have Q:=λu:Grown E=>Grown.cell K.c2 K.lt u
      go_wp2_with fail
      refine Yc (by kernel_rfl) (by kernel_rfl) ?_;repeat (go_big_quiet_step (fail))
      refine wpQuiet_nil ?_;rintro _ ⟨u,rfl⟩;clear G H I O P Q;replace J:=J.below u.ok;replace K:=K.below u.ok K.lt;replace B:=B.trans (u.ok.mono B.size);replace f:=Nat.le_trans f u.ok.size;generalize u.to=d at J K B f ⊢;clear u;go_wp2_with fail
      have hF:∀M,Below (w.1.size+1) d M->M.cell? ⟨w.1.size,0,none⟩=some (.int .i64 k.obj)/\M.cell? ⟨w.1.size,1,none⟩=some (.int .i64 k.kind)/\M.cell? ⟨w.1.size,2,none⟩=some (.int .i64 k.off):=λM Y=>⟨(K.below Y (by omega)).c0,(K.below Y (by omega)).c1,(K.below Y (by omega)).c2⟩
      have BD:Below d.1.size d d.drew:=(Below.refl _ _).drew;have OE:Own (d.alloc (.cells #[] 5)).drew d.1.size 5 (some ⟨d.1.size,0,none⟩) 0 0 []:=q2s d 5;have BE:Below d.1.size d (d.alloc (.cells #[] 5)).drew:=(Qm).drew;have zE:(d.alloc (.cells #[] 5)).drew.1.size=d.1.size+1:=by simp
      have a8:=HV.out _ (B.trans (BE.mono B.size));have BA:∀o,Below d.1.size d (d.alloc o):=λo=>(Below.refl _ _).alloc (Nat.le_refl _) o
      have b1:d.1.size<=(d.alloc (.cells #[] 5)).drew.1.size:=by omega
      go_region_held3 (λM=>M.cell? ⟨w.1.size,0,none⟩=some (.int .i64 k.obj)/\M.cell? ⟨w.1.size,1,none⟩=some (.int .i64 k.kind)/\M.cell? ⟨w.1.size,2,none⟩=some (.int .i64 k.off))
       (first|assumption|exact hF _ (BD.mono f)|exact hF _ (BE.mono f)|exact hF _ ((BA _).mono f)|exact hF _ a6|exact hF _ a7|exact hF _ U)
       (first
        |(refine q1x _ Gy rfl (.tmp 41) (.tmp 42) rfl d.1.size d.1.size rfl OE V p q v rfl a8 hp b1 ?_;intro A5 c5 w5 T a2;have a6:Below (w.1.size+1) d w5:=(BE.mono f).trans (a2.mono (by omega));have z5:=a2.size;have ba:Below w5.1.size w5 (w5.alloc (.cells #[.int .i64 k.obj,.int .i64 k.kind,.int .i64 k.off,.slice A5 p c5] 68)):=Qm;have a7:=a6.trans (ba.mono (by omega));have J5:=J.below (BE.trans (a2.mono (by omega)));have z6:=ba.size;have b0:w.1.size+1<=(w5.alloc (.cells #[.int .i64 k.obj,.int .i64 k.kind,.int .i64 k.off,.slice A5 p c5] 68)).1.size:=(by omega);have b5:F A5 v:=c7.out A5 v (λb Y=>by have h1:=q2d T b Y;omega);have b4:v≠[]->∀b,q01 A5=some b->q01 A'≠some b:=λ_ b Y e=>by have h1:=q2d T b Y;have h2:=(J.Qa b e).2;omega)
        |(refine q1e rfl (.tmp 39) (.tmp 45) rfl (w.1.size+1) A' m c' out rfl (J5.below ba) (some ⟨w5.1.size,0,none⟩) 1 ⟨k,v⟩ A5 p c5 rfl (q1y w5 k A5 p c5) ⟨T.sl.below ba,b5⟩ b4 (by omega) b0 ?_;intro A6 c6 w8 J7 T7;have U:Below (w.1.size+1) d w8:=a7.trans (T7.below (λk hk=>(J5.Qa k hk).1) b0))
        |fail)
      replace K:=K.below U (by omega);replace B:=B.trans (U.mono (by omega));replace f:=Nat.le_trans f U.size;clear J hF BD OE BE BA zE a8 b1;have J:=J7;clear J7;have G:=λu:Grown w8=>(y.out u.to (B.trans (u.ok.mono B.size))).1
      have H:=λu:Grown w8=>(y.out u.to (B.trans (u.ok.mono B.size))).2.1
      have I:=λu:Grown w8=>(y.out u.to (B.trans (u.ok.mono B.size))).2.2.1
      have O:=λu:Grown w8=>Grown.cell K.c0 K.lt u
      have P:=λu:Grown w8=>Grown.cell K.c1 K.lt u
      have Q:=λu:Grown w8=>Grown.cell K.c2 K.lt u
      go_wp2_with fail
      refine Yc (by kernel_rfl) (by kernel_rfl) ?_;repeat (go_big_quiet_step (fail))
      refine wpQuiet_nil ?_;rintro _ ⟨u,rfl⟩;clear G H I O P Q;replace J:=J.below u.ok;replace K:=K.below u.ok K.lt;replace B:=B.trans (u.ok.mono B.size);replace f:=Nat.le_trans f u.ok.size;generalize u.to=D at J K B f ⊢;clear u;go_wp2;exact⟨⟨j+1,m+1,_,_,out++[⟨k,v⟩],true,by omega,by omega,by go_num,rfl,rfl,J,W,K,B,f⟩,by simp[intOf];omega⟩
   |false=>
    cases h1:k.less x.k with
    |true=>
     cases done with
     |true=>
      have H1:=λw=>q17 k x.k true h1 w
      have b6:=O9 x.k k false h2;have b8:=q2b x.k k false true h2 rfl;rw[h1,h2] at Z;clear h1 h2;have W:((out)++[x])++Zo k v true (l.drop (j+1))=R:=by rw[<-Z];simp
      clear Z;have G:=λu:Grown wr=>(y.out u.to (B.trans (u.ok.mono B.size))).1
      have H:=λu:Grown wr=>(y.out u.to (B.trans (u.ok.mono B.size))).2.1
      have I:=λu:Grown wr=>(y.out u.to (B.trans (u.ok.mono B.size))).2.2.1
      have O:=λu:Grown wr=>Grown.cell K.c0 K.lt u
      have P:=λu:Grown wr=>Grown.cell K.c1 K.lt u
      have Q:=λu:Grown wr=>Grown.cell K.c2 K.lt u
      go_wp2_with fail
      refine Yc (by kernel_rfl) (by kernel_rfl) ?_;repeat (go_big_quiet_step (fail))
      go_big_quiet_step (first|(go_at_call 66;exact Calls.grown (H1 _))|fail)
      repeat (go_big_quiet_step (fail))
      refine wpQuiet_nil ?_;rintro _ ⟨u,rfl⟩;clear G H I O P Q;replace J:=J.below u.ok;replace K:=K.below u.ok K.lt;replace B:=B.trans (u.ok.mono B.size);replace f:=Nat.le_trans f u.ok.size;generalize u.to=E at J K B f ⊢;clear u;have G:=λu:Grown E=>(y.out u.to (B.trans (u.ok.mono B.size))).1
      have H:=λu:Grown E=>(y.out u.to (B.trans (u.ok.mono B.size))).2.1
      have I:=λu:Grown E=>(y.out u.to (B.trans (u.ok.mono B.size))).2.2.1
      have O:=λu:Grown E=>Grown.cell K.c0 K.lt u
      have P:=λu:Grown E=>Grown.cell K.c1 K.lt u
      have Q:=λu:Grown E=>Grown.cell K.c2 K.lt u
      go_wp2_with fail
      refine Yc (by kernel_rfl) (by kernel_rfl) ?_;repeat (go_big_quiet_step (fail))
      refine wpQuiet_nil ?_;rintro _ ⟨u,rfl⟩;clear G H I O P Q;replace J:=J.below u.ok;replace K:=K.below u.ok K.lt;replace B:=B.trans (u.ok.mono B.size);replace f:=Nat.le_trans f u.ok.size;generalize u.to=d at J K B f ⊢;clear u;have G:=λu:Grown d=>(y.out u.to (B.trans (u.ok.mono B.size))).1
      have H:=λu:Grown d=>(y.out u.to (B.trans (u.ok.mono B.size))).2.1
      have I:=λu:Grown d=>(y.out u.to (B.trans (u.ok.mono B.size))).2.2.1
      have O:=λu:Grown d=>Grown.cell K.c0 K.lt u
      have P:=λu:Grown d=>Grown.cell K.c1 K.lt u
      have Q:=λu:Grown d=>Grown.cell K.c2 K.lt u
      go_wp2_with fail
      refine Yc (by kernel_rfl) (by kernel_rfl) ?_;repeat (go_big_quiet_step (fail))
      refine wpQuiet_nil ?_;rintro _ ⟨u,rfl⟩;clear G H I O P Q;replace J:=J.below u.ok;replace K:=K.below u.ok K.lt;replace B:=B.trans (u.ok.mono B.size);replace f:=Nat.le_trans f u.ok.size;generalize u.to=D at J K B f ⊢;clear u;obtain⟨G,H,I,d3,b9⟩:=y.out D B;have b7:x.v≠[]->∀b,q01 X=some b->q01 A'≠some b:=λhv b Y e=>by have h1:=c9 hv b Y;have h2:=(J.Qa b e).1;omega
      have b2:Below D.1.size D (D.alloc (.cells #[.int .i64 x.k.obj,.int .i64 x.k.kind,.int .i64 x.k.off,.slice X xp xq] 68)):=Qm;have d6:=b2.size;go_wp2_with (first
       |(at_builtin;refine q1b rfl _ _ rfl (w.1.size+1) A' (m) c' (out) rfl (J.below b2) (some ⟨D.1.size,0,none⟩) 1 x X xp xq rfl (q1y D x.k X xp xq) (b9.below b2) b7 (by omega) (by omega) ?_)
       |fail)
      intro A3 c3 w9 J3 T3;have b3:=T3.below (λk hk=>(J.Qa k hk).1) (show w.1.size+1<=_ by omega);have a1:Below (w.1.size+1) D w9:=(b2.mono (by omega)).trans b3;go_wp2;exact⟨⟨j+1,m+1,_,_,(out)++[x],true,by omega,by omega,by go_num,rfl,rfl,J3,W,K.below a1 (by omega),B.trans (a1.mono (by omega)),by have:=a1.size;omega⟩,by simp[intOf];omega⟩
     |false=>
      have H1:=λw=>q17 k x.k true h1 w
      have b6:=O9 x.k k false h2;have b8:=q2b x.k k false true h2 rfl;rw[h1,h2] at Z;clear h1 h2;have W:((out++[⟨k,v⟩])++[x])++Zo k v true (l.drop (j+1))=R:=by rw[<-Z];simp
      clear Z;have G:=λu:Grown wr=>(y.out u.to (B.trans (u.ok.mono B.size))).1
      have H:=λu:Grown wr=>(y.out u.to (B.trans (u.ok.mono B.size))).2.1
      have I:=λu:Grown wr=>(y.out u.to (B.trans (u.ok.mono B.size))).2.2.1
      have O:=λu:Grown wr=>Grown.cell K.c0 K.lt u
      have P:=λu:Grown wr=>Grown.cell K.c1 K.lt u
      have Q:=λu:Grown wr=>Grown.cell K.c2 K.lt u
      go_wp2_with fail
      refine Yc (by kernel_rfl) (by kernel_rfl) ?_;repeat (go_big_quiet_step (fail))
      go_big_quiet_step (first|(go_at_call 66;exact Calls.grown (H1 _))|fail)
      repeat (go_big_quiet_step (fail))
      refine wpQuiet_nil ?_;rintro _ ⟨u,rfl⟩;clear G H I O P Q;replace J:=J.below u.ok;replace K:=K.below u.ok K.lt;replace B:=B.trans (u.ok.mono B.size);replace f:=Nat.le_trans f u.ok.size;generalize u.to=E at J K B f ⊢;clear u;have G:=λu:Grown E=>(y.out u.to (B.trans (u.ok.mono B.size))).1
      have H:=λu:Grown E=>(y.out u.to (B.trans (u.ok.mono B.size))).2.1
      have I:=λu:Grown E=>(y.out u.to (B.trans (u.ok.mono B.size))).2.2.1
      have O:=λu:Grown E=>Grown.cell K.c0 K.lt u
      have P:=λu:Grown E=>Grown.cell K.c1 K.lt u
      have Q:=λu:Grown E=>Grown.cell K.c2 K.lt u
      go_wp2_with fail
      refine Yc (by kernel_rfl) (by kernel_rfl) ?_;repeat (go_big_quiet_step (fail))
      refine wpQuiet_nil ?_;rintro _ ⟨u,rfl⟩;clear G H I O P Q;replace J:=J.below u.ok;replace K:=K.below u.ok K.lt;replace B:=B.trans (u.ok.mono B.size);replace f:=Nat.le_trans f u.ok.size;generalize u.to=d at J K B f ⊢;clear u;go_wp2_with fail
      have hF:∀M,Below (w.1.size+1) d M->M.cell? ⟨w.1.size,0,none⟩=some (.int .i64 k.obj)/\M.cell? ⟨w.1.size,1,none⟩=some (.int .i64 k.kind)/\M.cell? ⟨w.1.size,2,none⟩=some (.int .i64 k.off):=λM Y=>⟨(K.below Y (by omega)).c0,(K.below Y (by omega)).c1,(K.below Y (by omega)).c2⟩
      have BD:Below d.1.size d d.drew:=(Below.refl _ _).drew;have OE:Own (d.alloc (.cells #[] 5)).drew d.1.size 5 (some ⟨d.1.size,0,none⟩) 0 0 []:=q2s d 5;have BE:Below d.1.size d (d.alloc (.cells #[] 5)).drew:=(Qm).drew;have zE:(d.alloc (.cells #[] 5)).drew.1.size=d.1.size+1:=by simp
      have a8:=HV.out _ (B.trans (BE.mono B.size));have BA:∀o,Below d.1.size d (d.alloc o):=λo=>(Below.refl _ _).alloc (Nat.le_refl _) o
      have b1:d.1.size<=(d.alloc (.cells #[] 5)).drew.1.size:=by omega
      go_region_held3 (λM=>M.cell? ⟨w.1.size,0,none⟩=some (.int .i64 k.obj)/\M.cell? ⟨w.1.size,1,none⟩=some (.int .i64 k.kind)/\M.cell? ⟨w.1.size,2,none⟩=some (.int .i64 k.off))
       (first|assumption|exact hF _ (BD.mono f)|exact hF _ (BE.mono f)|exact hF _ ((BA _).mono f)|exact hF _ a6|exact hF _ a7|exact hF _ U)
       (first
        |(refine q1x _ Gy rfl (.tmp 41) (.tmp 42) rfl d.1.size d.1.size rfl OE V p q v rfl a8 hp b1 ?_;intro A5 c5 w5 T a2;have a6:Below (w.1.size+1) d w5:=(BE.mono f).trans (a2.mono (by omega));have z5:=a2.size;have ba:Below w5.1.size w5 (w5.alloc (.cells #[.int .i64 k.obj,.int .i64 k.kind,.int .i64 k.off,.slice A5 p c5] 68)):=Qm;have a7:=a6.trans (ba.mono (by omega));have J5:=J.below (BE.trans (a2.mono (by omega)));have z6:=ba.size;have b0:w.1.size+1<=(w5.alloc (.cells #[.int .i64 k.obj,.int .i64 k.kind,.int .i64 k.off,.slice A5 p c5] 68)).1.size:=(by omega);have b5:F A5 v:=c7.out A5 v (λb Y=>by have h1:=q2d T b Y;omega);have b4:v≠[]->∀b,q01 A5=some b->q01 A'≠some b:=λ_ b Y e=>by have h1:=q2d T b Y;have h2:=(J.Qa b e).2;omega)
        |(refine q1e rfl (.tmp 39) (.tmp 45) rfl (w.1.size+1) A' m c' out rfl (J5.below ba) (some ⟨w5.1.size,0,none⟩) 1 ⟨k,v⟩ A5 p c5 rfl (q1y w5 k A5 p c5) ⟨T.sl.below ba,b5⟩ b4 (by omega) b0 ?_;intro A6 c6 w8 J7 T7;have U:Below (w.1.size+1) d w8:=a7.trans (T7.below (λk hk=>(J5.Qa k hk).1) b0))
        |fail)
      replace K:=K.below U (by omega);replace B:=B.trans (U.mono (by omega));replace f:=Nat.le_trans f U.size;clear J hF BD OE BE BA zE a8 b1;have J:=J7;clear J7;have G:=λu:Grown w8=>(y.out u.to (B.trans (u.ok.mono B.size))).1
      have H:=λu:Grown w8=>(y.out u.to (B.trans (u.ok.mono B.size))).2.1
      have I:=λu:Grown w8=>(y.out u.to (B.trans (u.ok.mono B.size))).2.2.1
      have O:=λu:Grown w8=>Grown.cell K.c0 K.lt u
      have P:=λu:Grown w8=>Grown.cell K.c1 K.lt u
      have Q:=λu:Grown w8=>Grown.cell K.c2 K.lt u
      go_wp2_with fail
      refine Yc (by kernel_rfl) (by kernel_rfl) ?_;repeat (go_big_quiet_step (fail))
      refine wpQuiet_nil ?_;rintro _ ⟨u,rfl⟩;clear G H I O P Q;replace J:=J.below u.ok;replace K:=K.below u.ok K.lt;replace B:=B.trans (u.ok.mono B.size);replace f:=Nat.le_trans f u.ok.size;generalize u.to=D at J K B f ⊢;clear u;obtain⟨G,H,I,d3,b9⟩:=y.out D B;have b7:x.v≠[]->∀b,q01 X=some b->q01 A6≠some b:=λhv b Y e=>by have h1:=c9 hv b Y;have h2:=(J.Qa b e).1;omega
      have b2:Below D.1.size D (D.alloc (.cells #[.int .i64 x.k.obj,.int .i64 x.k.kind,.int .i64 x.k.off,.slice X xp xq] 68)):=Qm;have d6:=b2.size;go_wp2_with (first
       |(at_builtin;refine q1b rfl _ _ rfl (w.1.size+1) A6 (m+1) c6 (out++[⟨k,v⟩]) rfl (J.below b2) (some ⟨D.1.size,0,none⟩) 1 x X xp xq rfl (q1y D x.k X xp xq) (b9.below b2) b7 (by omega) (by omega) ?_)
       |fail)
      intro A3 c3 w9 J3 T3;have b3:=T3.below (λk hk=>(J.Qa k hk).1) (show w.1.size+1<=_ by omega);have a1:Below (w.1.size+1) D w9:=(b2.mono (by omega)).trans b3;go_wp2;exact⟨⟨j+1,m+1+1,_,_,(out++[⟨k,v⟩])++[x],true,by omega,by omega,by go_num,rfl,rfl,by rw[List.append_assoc];exact J3,W,K.below a1 (by omega),B.trans (a1.mono (by omega)),by have:=a1.size;omega⟩,by simp[intOf];omega⟩
    |false=>
     cases done with
     |true=>
      have H1:=λw=>q17 k x.k false h1 w
      have b6:=O9 x.k k false h2;have b8:=q2b x.k k false true h2 rfl;rw[h1,h2] at Z;clear h1 h2;have W:((out)++[x])++Zo k v true (l.drop (j+1))=R:=by rw[<-Z];simp
      clear Z;have G:=λu:Grown wr=>(y.out u.to (B.trans (u.ok.mono B.size))).1
      have H:=λu:Grown wr=>(y.out u.to (B.trans (u.ok.mono B.size))).2.1
      have I:=λu:Grown wr=>(y.out u.to (B.trans (u.ok.mono B.size))).2.2.1
      have O:=λu:Grown wr=>Grown.cell K.c0 K.lt u
      have P:=λu:Grown wr=>Grown.cell K.c1 K.lt u
      have Q:=λu:Grown wr=>Grown.cell K.c2 K.lt u
      go_wp2_with fail
      refine Yc (by kernel_rfl) (by kernel_rfl) ?_;repeat (go_big_quiet_step (fail))
      go_big_quiet_step (first|(go_at_call 66;exact Calls.grown (H1 _))|fail)
      repeat (go_big_quiet_step (fail))
      refine wpQuiet_nil ?_;rintro _ ⟨u,rfl⟩;clear G H I O P Q;replace J:=J.below u.ok;replace K:=K.below u.ok K.lt;replace B:=B.trans (u.ok.mono B.size);replace f:=Nat.le_trans f u.ok.size;generalize u.to=E at J K B f ⊢;clear u;have G:=λu:Grown E=>(y.out u.to (B.trans (u.ok.mono B.size))).1
      have H:=λu:Grown E=>(y.out u.to (B.trans (u.ok.mono B.size))).2.1
      have I:=λu:Grown E=>(y.out u.to (B.trans (u.ok.mono B.size))).2.2.1
      have O:=λu:Grown E=>Grown.cell K.c0 K.lt u
      have P:=λu:Grown E=>Grown.cell K.c1 K.lt u
      have Q:=λu:Grown E=>Grown.cell K.c2 K.lt u
      go_wp2_with fail
      refine Yc (by kernel_rfl) (by kernel_rfl) ?_;repeat (go_big_quiet_step (fail))
      refine wpQuiet_nil ?_;rintro _ ⟨u,rfl⟩;clear G H I O P Q;replace J:=J.below u.ok;replace K:=K.below u.ok K.lt;replace B:=B.trans (u.ok.mono B.size);replace f:=Nat.le_trans f u.ok.size;generalize u.to=d at J K B f ⊢;clear u;have G:=λu:Grown d=>(y.out u.to (B.trans (u.ok.mono B.size))).1
      have H:=λu:Grown d=>(y.out u.to (B.trans (u.ok.mono B.size))).2.1
      have I:=λu:Grown d=>(y.out u.to (B.trans (u.ok.mono B.size))).2.2.1
      have O:=λu:Grown d=>Grown.cell K.c0 K.lt u
      have P:=λu:Grown d=>Grown.cell K.c1 K.lt u
      have Q:=λu:Grown d=>Grown.cell K.c2 K.lt u
      go_wp2_with fail
      refine Yc (by kernel_rfl) (by kernel_rfl) ?_;repeat (go_big_quiet_step (fail))
      refine wpQuiet_nil ?_;rintro _ ⟨u,rfl⟩;clear G H I O P Q;replace J:=J.below u.ok;replace K:=K.below u.ok K.lt;replace B:=B.trans (u.ok.mono B.size);replace f:=Nat.le_trans f u.ok.size;generalize u.to=D at J K B f ⊢;clear u;obtain⟨G,H,I,d3,b9⟩:=y.out D B;have b7:x.v≠[]->∀b,q01 X=some b->q01 A'≠some b:=λhv b Y e=>by have h1:=c9 hv b Y;have h2:=(J.Qa b e).1;omega
      have b2:Below D.1.size D (D.alloc (.cells #[.int .i64 x.k.obj,.int .i64 x.k.kind,.int .i64 x.k.off,.slice X xp xq] 68)):=Qm;have d6:=b2.size;go_wp2_with (first
       |(at_builtin;refine q1b rfl _ _ rfl (w.1.size+1) A' (m) c' (out) rfl (J.below b2) (some ⟨D.1.size,0,none⟩) 1 x X xp xq rfl (q1y D x.k X xp xq) (b9.below b2) b7 (by omega) (by omega) ?_)
       |fail)
      intro A3 c3 w9 J3 T3;have b3:=T3.below (λk hk=>(J.Qa k hk).1) (show w.1.size+1<=_ by omega);have a1:Below (w.1.size+1) D w9:=(b2.mono (by omega)).trans b3;go_wp2;exact⟨⟨j+1,m+1,_,_,(out)++[x],true,by omega,by omega,by go_num,rfl,rfl,J3,W,K.below a1 (by omega),B.trans (a1.mono (by omega)),by have:=a1.size;omega⟩,by simp[intOf];omega⟩
     |false=>
      have H1:=λw=>q17 k x.k false h1 w
      have b6:=O9 x.k k false h2;have b8:=q2b x.k k false true h2 rfl;rw[h1,h2] at Z;clear h1 h2;have W:((out)++[x])++Zo k v false (l.drop (j+1))=R:=by rw[<-Z];simp
      clear Z;have G:=λu:Grown wr=>(y.out u.to (B.trans (u.ok.mono B.size))).1
      have H:=λu:Grown wr=>(y.out u.to (B.trans (u.ok.mono B.size))).2.1
      have I:=λu:Grown wr=>(y.out u.to (B.trans (u.ok.mono B.size))).2.2.1
      have O:=λu:Grown wr=>Grown.cell K.c0 K.lt u
      have P:=λu:Grown wr=>Grown.cell K.c1 K.lt u
      have Q:=λu:Grown wr=>Grown.cell K.c2 K.lt u
      go_wp2_with fail
      refine Yc (by kernel_rfl) (by kernel_rfl) ?_;repeat (go_big_quiet_step (fail))
      go_big_quiet_step (first|(go_at_call 66;exact Calls.grown (H1 _))|fail)
      repeat (go_big_quiet_step (fail))
      refine wpQuiet_nil ?_;rintro _ ⟨u,rfl⟩;clear G H I O P Q;replace J:=J.below u.ok;replace K:=K.below u.ok K.lt;replace B:=B.trans (u.ok.mono B.size);replace f:=Nat.le_trans f u.ok.size;generalize u.to=E at J K B f ⊢;clear u;have G:=λu:Grown E=>(y.out u.to (B.trans (u.ok.mono B.size))).1
      have H:=λu:Grown E=>(y.out u.to (B.trans (u.ok.mono B.size))).2.1
      have I:=λu:Grown E=>(y.out u.to (B.trans (u.ok.mono B.size))).2.2.1
      have O:=λu:Grown E=>Grown.cell K.c0 K.lt u
      have P:=λu:Grown E=>Grown.cell K.c1 K.lt u
      have Q:=λu:Grown E=>Grown.cell K.c2 K.lt u
      go_wp2_with fail
      refine Yc (by kernel_rfl) (by kernel_rfl) ?_;repeat (go_big_quiet_step (fail))
      refine wpQuiet_nil ?_;rintro _ ⟨u,rfl⟩;clear G H I O P Q;replace J:=J.below u.ok;replace K:=K.below u.ok K.lt;replace B:=B.trans (u.ok.mono B.size);replace f:=Nat.le_trans f u.ok.size;generalize u.to=d at J K B f ⊢;clear u;have G:=λu:Grown d=>(y.out u.to (B.trans (u.ok.mono B.size))).1
      have H:=λu:Grown d=>(y.out u.to (B.trans (u.ok.mono B.size))).2.1
      have I:=λu:Grown d=>(y.out u.to (B.trans (u.ok.mono B.size))).2.2.1
      have O:=λu:Grown d=>Grown.cell K.c0 K.lt u
      have P:=λu:Grown d=>Grown.cell K.c1 K.lt u
      have Q:=λu:Grown d=>Grown.cell K.c2 K.lt u
      go_wp2_with fail
      refine Yc (by kernel_rfl) (by kernel_rfl) ?_;repeat (go_big_quiet_step (fail))
      refine wpQuiet_nil ?_;rintro _ ⟨u,rfl⟩;clear G H I O P Q;replace J:=J.below u.ok;replace K:=K.below u.ok K.lt;replace B:=B.trans (u.ok.mono B.size);replace f:=Nat.le_trans f u.ok.size;generalize u.to=D at J K B f ⊢;clear u;obtain⟨G,H,I,d3,b9⟩:=y.out D B;have b7:x.v≠[]->∀b,q01 X=some b->q01 A'≠some b:=λhv b Y e=>by have h1:=c9 hv b Y;have h2:=(J.Qa b e).1;omega
      have b2:Below D.1.size D (D.alloc (.cells #[.int .i64 x.k.obj,.int .i64 x.k.kind,.int .i64 x.k.off,.slice X xp xq] 68)):=Qm;have d6:=b2.size;go_wp2_with (first
       |(at_builtin;refine q1b rfl _ _ rfl (w.1.size+1) A' (m) c' (out) rfl (J.below b2) (some ⟨D.1.size,0,none⟩) 1 x X xp xq rfl (q1y D x.k X xp xq) (b9.below b2) b7 (by omega) (by omega) ?_)
       |fail)
      intro A3 c3 w9 J3 T3;have b3:=T3.below (λk hk=>(J.Qa k hk).1) (show w.1.size+1<=_ by omega);have a1:Below (w.1.size+1) D w9:=(b2.mono (by omega)).trans b3;go_wp2;exact⟨⟨j+1,m+1,_,_,(out)++[x],false,by omega,by omega,by go_num,rfl,rfl,J3,W,K.below a1 (by omega),B.trans (a1.mono (by omega)),by have:=a1.size;omega⟩,by simp[intOf];omega⟩
  ·have d4:=qoa (k:=k) (v:=v) (done:=done) (l:=l) (j:=j) (by rw[hl.out];omega);rw[d4] at Z;clear d4
   cases done with
   |true=>
    have W:out=R:=by rw[<-Z];simp
    subst W;clear Z;go_wp2;go_ret;exact⟨_,_,_,rfl,J.Gn,λg hg=>by have:=(J.Qa g hg).1;omega,B⟩
   |false=>
    have W:out++[⟨k,v⟩]=R:=Z;clear Z;go_wp2_with fail
    have hF:∀M,Below (w.1.size+1) wr M->M.cell? ⟨w.1.size,0,none⟩=some (.int .i64 k.obj)/\M.cell? ⟨w.1.size,1,none⟩=some (.int .i64 k.kind)/\M.cell? ⟨w.1.size,2,none⟩=some (.int .i64 k.off):=λM Y=>⟨(K.below Y (by omega)).c0,(K.below Y (by omega)).c1,(K.below Y (by omega)).c2⟩
    have BD:Below wr.1.size wr wr.drew:=(Below.refl _ _).drew;have OE:Own (wr.alloc (.cells #[] 5)).drew wr.1.size 5 (some ⟨wr.1.size,0,none⟩) 0 0 []:=q2s wr 5;have BE:Below wr.1.size wr (wr.alloc (.cells #[] 5)).drew:=(Qm).drew;have zE:(wr.alloc (.cells #[] 5)).drew.1.size=wr.1.size+1:=by simp
    have a8:=HV.out _ (B.trans (BE.mono B.size));have BA:∀o,Below wr.1.size wr (wr.alloc o):=λo=>(Below.refl _ _).alloc (Nat.le_refl _) o
    have b1:wr.1.size<=(wr.alloc (.cells #[] 5)).drew.1.size:=by omega
    go_region_held3 (λM=>M.cell? ⟨w.1.size,0,none⟩=some (.int .i64 k.obj)/\M.cell? ⟨w.1.size,1,none⟩=some (.int .i64 k.kind)/\M.cell? ⟨w.1.size,2,none⟩=some (.int .i64 k.off))
     (first|assumption|exact hF _ (BD.mono f)|exact hF _ (BE.mono f)|exact hF _ ((BA _).mono f)|exact hF _ a6|exact hF _ a7|exact hF _ U)
     (first
      |(refine q1x _ Gy rfl (.tmp 65) (.tmp 66) rfl wr.1.size wr.1.size rfl OE V p q v rfl a8 hp b1 ?_;intro A5 c5 w5 T a2;have a6:Below (w.1.size+1) wr w5:=(BE.mono f).trans (a2.mono (by omega));have z5:=a2.size;have ba:Below w5.1.size w5 (w5.alloc (.cells #[.int .i64 k.obj,.int .i64 k.kind,.int .i64 k.off,.slice A5 p c5] 68)):=Qm;have a7:=a6.trans (ba.mono (by omega));have J5:=J.below (BE.trans (a2.mono (by omega)));have z6:=ba.size;have b0:w.1.size+1<=(w5.alloc (.cells #[.int .i64 k.obj,.int .i64 k.kind,.int .i64 k.off,.slice A5 p c5] 68)).1.size:=(by omega);have b5:F A5 v:=c7.out A5 v (λb Y=>by have h1:=q2d T b Y;omega);have b4:v≠[]->∀b,q01 A5=some b->q01 A'≠some b:=λ_ b Y e=>by have h1:=q2d T b Y;have h2:=(J.Qa b e).2;omega)
      |(refine q1e rfl (.tmp 63) (.tmp 69) rfl (w.1.size+1) A' m c' out rfl (J5.below ba) (some ⟨w5.1.size,0,none⟩) 1 ⟨k,v⟩ A5 p c5 rfl (q1y w5 k A5 p c5) ⟨T.sl.below ba,b5⟩ b4 (by omega) b0 ?_;intro A6 c6 w8 J7 T7;have U:Below (w.1.size+1) wr w8:=a7.trans (T7.below (λk hk=>(J5.Qa k hk).1) b0))
      |fail)
    replace K:=K.below U (by omega);replace B:=B.trans (U.mono (by omega));replace f:=Nat.le_trans f U.size;clear J hF BD OE BE BA zE a8 b1;go_wp2;go_ret;exact⟨_,_,_,rfl,by rw[<-W];exact J7.Gn,λg hg=>by have:=(J7.Qa g hg).1;omega,B⟩
