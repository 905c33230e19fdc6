/- Pools of trees: a new one, one behind a commit; what the law's search and Names tell of th -/
import Derived.Test.YtnnbaihfboacoaaGreatDoorPoRv1
import Derived.Test.YtnnbaihfboacoaaGreatDoorEt34
namespace Go.Proofs.YtnnbaihfboacoaaGreatDoor
open Go Go.RowKit Go.Proofs
set_option maxHeartbeats 16000000
set_option maxRecDepth 100000
section
variable {D:DM}{S0:Sp}{C0:Ct}{H:List Int}{P:Pl}
theorem Keep.ok0 (K:Keep D S0 C0 [] H P){a:Nat}(h0:P.C.get (a:Int)≠0):(P.store D (a:Int)).2=0:=by
 have:=(K.told h0 (by simp)).err;rwa [Nh] at this
theorem qii (K:Keep D S0 C0 [] H P)(G:P.g<1099511627775):Keep (D.Qk P.steps) P.sup P.C [] H P.done/\∀a,(P.store D a).2=0->P.done.store (D.Qk P.steps) a=P.store D a:=by
 have d:=K.Zt.ok;have u:=K.Zt.sound;have m:=q8j d u K.Zt.good;obtain⟨_,_,y,_⟩:=qrw d u;have I:P.Uc D H:=Jo.same K.Uc (λ_ _=>rfl) λb _ _=>by rw[Nh];rfl
 have p:=qhy I d u K.Zt.good λa _ h0=>K.ok0 h0
 refine⟨⟨⟨qp6 d G,y,λa b E=>(by cases E)⟩,λa f=>?_,Jo.same p (λ_ _=>rfl) (λb _ _=>by rw[Nh];rfl),λx B=>(by cases B),λa f h0 _=>?_⟩,m⟩
 ·exfalso
  have h0:=q31 (C:=P.C.commit) f;have f:P.C.commit.fresh (a:Int)=true:=f;unfold Ct.fresh at f;rw[if_neg h0] at f;have e:P.C.commit.get (a:Int)=nm P.C.commit.done a:=by
   unfold Ct.get at h0 ⊢;split
   ·rw[Int.toNat_natCast];rfl
   ·rename_i F;rw[if_neg F] at h0;exact absurd rfl h0
  rw[e] at h0;simp[h0] at f
 ·have h0:P.C.get (a:Int)≠0:=h0;have L:=K.told h0 (by simp);rw[Nh] at L ⊢;exact L.ext λx B=>m x B
end
theorem qqu {k:Kd}{l:List Qc}{j:Nat}(b:j<l.length):Jv k (l.drop j)=(if (Qj l j).k.same k=true then [] else [Qj l j])++Jv k (l.drop (j+1)):=by
 rw[q9w b];unfold Jv;rw[List.filter_cons]
 cases (Qj l j).k.same k<;>rfl
theorem qqv {k:Kd}{l:List Qc}{j:Nat}(h:l.length<=j):Jv k (l.drop j)=[]:=by
 rw[List.drop_of_length_le h];rfl
theorem qqw (F:Option Addr->List UInt8->Prop)(A:Option Addr)(n c:Nat)(l:List Qc)(k:Kd)(w:World)(hI:Zg F w A n c l)(hn:n<=400)(t:Bool)(ht:decide ((Jv k l).length<l.length)=t) :
  Calls Tryz.prog 34 #[.slice A n c,.agg #[.int .i64 k.obj,.int .i64 k.kind,.int .i64 k.off]] w λe w'=>∃E n' O,e=.returned (.tuple #[.slice E n' O,.bool t])/\Zg F w' E n' O (Jv k l)/\(∀g,q01 E=some g->w.1.size<=g)/\Below w.1.size w w':=by
 have hl:=Lib.hid hI.Zq.len;obtain⟨K0,bB⟩:=Xb w k;obtain⟨R,G⟩:∃R,Jv k l=R:=⟨_,rfl⟩;have f:([]:List Qc)++Jv k (l.drop 0)=R:=G;rw[G] at ht ⊢;have a7:R.length<=n:=by rw[<-G];have:=qq8 k l;have:=hl.out;omega
 clear G;replace ht:=Lib.hid ht;go_enter Tryz.func34,Tryz.ntmps34
 go_wp2_with fail
 generalize a2:w.alloc (.cells #[.int .i64 k.obj,.int .i64 k.kind,.int .i64 k.off] 30)=Z at K0 bB ⊢;have zw:Z.1.size=w.1.size+1:=by rw[<-a2];simp
 clear a2;have bl:Below Z.1.size Z (Z.alloc (.cells #[] 68)):=Qm;have J0:=q26 (F:=F) Z;have K1:=K0.below bl K0.lt;have B1:=bB.trans (bl.mono bB.size);have zl:=bl.size;generalize Z.alloc (.cells #[] 68)=w2 at bl J0 K1 B1 zl ⊢;rw[zw] at J0;go_loopw [6,7] (λlv i wr=>∃(j m:Nat) (E:Option Addr) (O:Nat) (out:List Qc),j<=n/\m<=j/\i=.int .i64 (j:Int)/\lv=.slice E m O/\Je F wr (w.1.size+1) E m O out/\out++Jv k (l.drop j)=R/\KB wr w.1.size k/\Below w.1.size w wr/\w.1.size+1<=wr.1.size) (λ_ i _=>n-(intOf i).toNat)
 case atStart=>exact⟨0,0,_,_,[],Nat.zero_le _,Nat.le_refl _,rfl,rfl,J0,f,K1,B1,by omega⟩
 case round=>
  clear J0 K1 B1 f K0 bB bl zl;obtain⟨j,m,E,O,out,hj,hm,rfl,rfl,J,f,K,B,W⟩:=hrel;by_cases a1:j<n
  ·have y:=qqu (k:=k) (l:=l) (j:=j) (by rw[hl.out];exact a1);rw[y] at f;obtain⟨g,o,X,xp,xq,rfl,Y,c0,c1,c2,c3,hs⟩:=hI.cell a1;obtain⟨x,hx⟩:∃x,Qj l j=x:=⟨_,rfl⟩;rw[hx] at c0 c1 c2 hs f;have HX:=Lib.hid (λ(w':World) (b:Below w.1.size w w')=>show w'.cell? ⟨g,o+j*4,none⟩=some (.int .i64 x.k.obj)/\w'.cell? ⟨g,o+j*4+1,none⟩=some (.int .i64 x.k.kind)/\w'.cell? ⟨g,o+j*4+2,none⟩=some (.int .i64 x.k.off)/\w'.cell? ⟨g,o+j*4+3,none⟩=some (.slice X xp xq)/\Le F w' X xp xq x.v from
    ⟨(b.cell (p:=⟨g,_,none⟩) Y).trans c0,(b.cell (p:=⟨g,_,none⟩) Y).trans c1,(b.cell (p:=⟨g,_,none⟩) Y).trans c2,(b.cell (p:=⟨g,_,none⟩) Y).trans c3,hs.below b⟩)
   have e0:(0:Int)<=(j:Int):=by omega
   have e1:(j:Int)<(n:Int):=by omega
   have a6:=hs.1.Qa;clear c0 c1 c2 c3 hs hx y;have b5:=q9x;have d0:=λu:Grown wr=>(HX.out u.to (B.trans (u.ok.mono B.size))).1
   have d1:=λu:Grown wr=>(HX.out u.to (B.trans (u.ok.mono B.size))).2.1
   have d2:=λu:Grown wr=>(HX.out u.to (B.trans (u.ok.mono B.size))).2.2.1
   have k0:=λu:Grown wr=>Grown.cell K.c0 K.lt u
   have k1:=λu:Grown wr=>Grown.cell K.c1 K.lt u
   have k2:=λu:Grown wr=>Grown.cell K.c2 K.lt u
   cases h2:x.k.same k with
   |true=>
    have b1:=q2b x.k k true false h2 rfl;rw[h2] at f;clear h2;have Q:out++Jv k (l.drop (j+1))=R:=by rw[<-f];simp
    clear f;go_wp2_with fail
    refine Yc (by kernel_rfl) (by kernel_rfl) ?_;repeat (go_big_quiet_step (fail))
    refine wpQuiet_nil ?_;rintro _ ⟨u,rfl⟩;clear d0 d1 d2 k0 k1 k2;replace J:=J.below u.ok;replace K:=K.below u.ok K.lt;replace B:=B.trans (u.ok.mono B.size);replace W:=Nat.le_trans W u.ok.size;generalize u.to=w6 at J K B W ⊢;clear u;go_wp2;exact⟨⟨j+1,m,_,_,out,by omega,by omega,by go_num,rfl,J,Q,K,B,W⟩,by simp[intOf];omega⟩
   |false=>
    have b1:=q2b x.k k false true h2 rfl;rw[h2] at f;clear h2;have Q:(out++[x])++Jv k (l.drop (j+1))=R:=by rw[<-f];simp
    clear f;go_wp2_with fail
    refine Yc (by kernel_rfl) (by kernel_rfl) ?_;repeat (go_big_quiet_step (fail))
    refine wpQuiet_nil ?_;rintro _ ⟨u,rfl⟩;clear d0 d1 d2 k0 k1 k2;replace J:=J.below u.ok;replace K:=K.below u.ok K.lt;replace B:=B.trans (u.ok.mono B.size);replace W:=Nat.le_trans W u.ok.size;generalize u.to=d at J K B W ⊢;clear u;obtain⟨d0,d1,d2,d3,b4⟩:=HX.out d B;have b0:x.v≠[]->∀b,q01 X=some b->q01 E≠some b:=λhv b hb e=>by have h1:=a6 hv b hb;have h2:=(J.Qa b e).1;omega
    have b2:Below d.1.size d (d.alloc (.cells #[.int .i64 x.k.obj,.int .i64 x.k.kind,.int .i64 x.k.off,.slice X xp xq] 68)):=Qm;have b6:=b2.size;go_wp2_with (first
     |(at_builtin;refine q1b rfl _ _ rfl (w.1.size+1) E (m) O (out) rfl (J.below b2) (some ⟨d.1.size,0,none⟩) 1 x X xp xq rfl (q1y d x.k X xp xq) (b4.below b2) b0 (by omega) (by omega) ?_)
     |fail)
    intro A3 c3 w9 J3 T3;have b3:=T3.below (λk hk=>(J.Qa k hk).1) (show w.1.size+1<=_ by omega);have M:Below (w.1.size+1) d w9:=(b2.mono (by omega)).trans b3;go_wp2;exact⟨⟨j+1,m+1,_,_,(out)++[x],by omega,by omega,by go_num,rfl,J3,Q,K.below M (by omega),B.trans (M.mono (by omega)),by have:=M.size;omega⟩,by simp[intOf];omega⟩
  ·have I:=qqv (k:=k) (l:=l) (j:=j) (by rw[hl.out];omega);rw[I,List.append_nil] at f;subst f;have a8:=J.Gn.Zq.len;have T:decide (m<n)=t:=by
    rw[<-ht.out,hl.out,a8]
   clear I a7;replace T:=Lib.hid T;go_wp2;go_ret2;exact⟨_,_,_,by rw[<-T.out];rfl,J.Gn,λg Y=>by have:=(J.Qa g Y).1;omega,B⟩
section
variable {U:Nat->Prop}{w w':World}{A:Option Addr}{n c:Nat}{xs:List Qc}
theorem J8.Qbz (h:J8 U w A n c xs)(hx:xs≠[]):∀g,q01 A=some g->g<w.1.size:=λg d=>by
 have m:=h.len;obtain⟨b,o,V,p,q,rfl,f,_⟩:=h.row.cell (j:=0) (by have:xs.length≠0:=λe=>hx (List.eq_nil_of_length_eq_zero e);omega);have e:b=g:=Option.some.inj d;omega
theorem J8.commit (h:J8 U w A n c xs)(T:Turn U w w'):J8 (grow U w w') w' A n c xs:=by
 have h2:=h.turned T;have y:Zg (λV v=>FU U V v/\(v≠[]->∀g,q01 V=some g->g<w.1.size)) w A n c xs:=q3s h.row λV p q v F f=>⟨f,λb=>F.Qa b⟩
 refine⟨?_,λe g d m=>?_⟩
 ·by_cases e:xs=[]
  ·subst e;obtain⟨B,h1,h2,E⟩:=h2.row;obtain rfl:B=[]:=List.eq_nil_of_length_eq_zero h2;exact⟨[],h1,rfl,λj r x G=>by simp at G⟩
  ·have E:Zg _ w' A n c xs:=y.turned T (h.blk e) λV v b=>b.1
   exact q3s E λV p q v F f b g d m=>m.1.elim (f.1 b g d) λu=>by have:=f.2 b g d;omega
 ·have:=h.Qbz e g d;exact m.1.elim (h.blk e g d) λu=>by omega
theorem qqx {b:Nat}(f:∀k,U k->k<b)(h:Zg (FU U) w A n c xs)(e:∀g,q01 A=some g->b<=g):J8 U w A n c xs:=
 ⟨h,λ_ g m d=>by have:=e g m;have:=f g d;omega⟩
end
