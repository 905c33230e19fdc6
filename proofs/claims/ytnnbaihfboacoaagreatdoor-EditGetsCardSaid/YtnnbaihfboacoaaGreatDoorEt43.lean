/- The call's own row of items whose values lie anywhere but in the row's own block; plain fa -/
import Derived.Test.YtnnbaihfboacoaaGreatDoorEt35
namespace Go.Proofs.YtnnbaihfboacoaaGreatDoor
open Go Go.RowKit Go.Proofs
set_option maxHeartbeats 8000000
section
variable {w w':World}{base n c:Nat}{A:Option Addr}{xs:List Qc}
end
theorem qua {l:List Qc}{k:Kd}{i:Nat}(hi:i<l.length)(h:∀j,j<i->(Qj l j).k.same k=false)(f:(Qj l i).k.same k=true):valOf l k=some (Qj l i).v:=by
 have e:Qj l i=l[i]:=by unfold Qj;rw[List.getD_eq_getElem?_getD,List.getElem?_eq_getElem hi];rfl
 have:l.find? (λx=>x.k.same k)=some l[i]:=by
  rw[List.find?_eq_some_iff_getElem];refine⟨by rw[<-e];exact f,i,hi,rfl,λq d=>?_⟩;have h1:=h q d;have b:Qj l q=l[q]:=by unfold Qj;rw[List.getD_eq_getElem?_getD,List.getElem?_eq_getElem (by omega)];rfl
  rw[b] at h1;rw[h1];rfl
 unfold valOf;rw[this,e];rfl
theorem qr0 {l:List Qc}{k:Kd}(h:∀j,j<l.length->(Qj l j).k.same k=false):valOf l k=none:=by
 have:l.find? (λx=>x.k.same k)=none:=by
  rw[List.find?_eq_none];intro x f;obtain⟨q,b,e⟩:=List.getElem_of_mem f;have h1:=h q b;have d:Qj l q=x:=by unfold Qj;rw[List.getD_eq_getElem?_getD,List.getElem?_eq_getElem b,e];rfl
  rw[d] at h1;rw[h1];simp
 unfold valOf;rw[this];rfl
theorem qkx (A:Option Addr)(n c:Nat)(l:List Qc)(k:Kd)(w:World)(X:Zl w A n c l)(hn:n<=1000) :
  Calls Tryz.prog 18 #[.slice A n c,.agg #[.int .i64 k.obj,.int .i64 k.kind,.int .i64 k.off]] w λe w'=>∃B m d,e=.returned (.tuple #[.slice B m d,.int .i64 (Gl (valOf l k)).2])/\Sl w' B m d (Gl (valOf l k)).1/\Below w.1.size w w':=by
 have Y:=Lib.hid X.len;obtain⟨M,P⟩:=Xb w k;obtain⟨E,F⟩:∃E,Gl (valOf l k)=E:=⟨_,rfl⟩;rw[F];go_enter Tryz.func18,Tryz.ntmps18
 go_wp2_with fail
 generalize w.alloc (.cells #[.int .i64 k.obj,.int .i64 k.kind,.int .i64 k.off] 30)=w1 at M P ⊢;have z1:=P.size;have zk:=M.lt;go_loopw [6] (λi wr=>∃j:Nat,j<=n/\i=.int .i64 (j:Int)/\(∀q,q<j->(Qj l q).k.same k=false)/\Below w1.1.size w1 wr) (λi _=>n-(intOf i).toNat)
 case atStart=>exact⟨0,Nat.zero_le _,rfl,λq h=>absurd h (Nat.not_lt_zero _),Below.refl _ _⟩
 case round=>
  obtain⟨j,hj,rfl,b,B⟩:=hrel;have y:=P.trans (B.mono z1);by_cases H:j<n
  ·obtain⟨g,o,V,p,q,rfl,J,c0,c1,c2,c3,Z⟩:=X.cell H;have zr:=B.size;have f:g<wr.1.size:=by omega
   obtain⟨x,K⟩:∃x,Qj l j=x:=⟨_,rfl⟩;rw[K] at c0 c1 c2 Z;have O:=M.below B zk;have Q:w.1.size<wr.1.size:=by omega
   have d0:=λu:Grown wr=>Grown.cell ((y.cell (p:=⟨g,_,none⟩) J).trans c0) f u
   have d1:=λu:Grown wr=>Grown.cell ((y.cell (p:=⟨g,_,none⟩) J).trans c1) f u
   have d2:=λu:Grown wr=>Grown.cell ((y.cell (p:=⟨g,_,none⟩) J).trans c2) f u
   have k0:=λu:Grown wr=>Grown.cell O.c0 Q u
   have k1:=λu:Grown wr=>Grown.cell O.c1 Q u
   have k2:=λu:Grown wr=>Grown.cell O.c2 Q u
   have e0:(0:Int)<=(j:Int):=by omega
   have e1:(j:Int)<(n:Int):=by omega
   have a2:=q5r
   cases G:x.k.same k with
   |true=>
    have R:=O9 x.k k true G;have W:E=(x.v,0):=by rw[<-F,qua (by rw[Y.out];exact H) b (by rw[K];exact G),K];rfl
    subst W;have f3:=λu:Grown wr=>Grown.cell ((y.cell (p:=⟨g,_,none⟩) J).trans c3) f u
    clear G b F c0 c1 c2 c3;go_wp2_with fail
    refine Yc (by kernel_rfl) (by kernel_rfl) ?_;repeat (go_big_quiet_step (fail))
    refine wpQuiet_nil ?_;rintro _ ⟨u,rfl⟩;have a1:=f3 u;have U:=(Z.below y).below (u.ok);have D:=y.trans (u.ok.mono (by omega));go_wp2;go_ret2;exact⟨_,_,_,rfl,U,D⟩
   |false=>
    have R:=O9 x.k k false G;have I:∀q,q<j+1->(Qj l q).k.same k=false:=λq T=>by
     by_cases h:q<j
     ·exact b q h
     ·obtain rfl:q=j:=by omega
      rw[K];exact G
    clear G b F c0 c1 c2 c3;go_wp2_with fail
    refine Yc (by kernel_rfl) (by kernel_rfl) ?_;repeat (go_big_quiet_step (fail))
    refine wpQuiet_nil ?_;rintro _ ⟨u,rfl⟩;have D:=B.trans (u.ok.mono zr);go_wp2;exact⟨⟨j+1,by omega,by go_num,I,D⟩,by simp[intOf];omega⟩
  ·obtain rfl:n=j:=by omega
   have W:E=([],10):=by rw[<-F,qr0 (λq T=>b q (by rw[Y.out] at T;exact T))];rfl
   subst W;clear b F;go_wp2;go_ret2;exact⟨none,0,0,rfl,q24 _,y⟩
