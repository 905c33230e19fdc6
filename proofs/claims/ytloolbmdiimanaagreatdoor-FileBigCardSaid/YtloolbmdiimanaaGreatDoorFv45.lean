/- The code's file: what a chunk holds; a chunk becomes an extent -/
import Derived.Test.YtloolbmdiimanaaGreatDoorFv44
namespace Go.Proofs.YtloolbmdiimanaaGreatDoor
open Go Go.RowKit Go.Proofs Tryz
set_option maxHeartbeats 8000000
set_option maxRecDepth 100000
section
variable {b:Nat}{w:WD}{d p:Nat}{U Q V:NP}{D:DM}{P:Pl}{root:Int}{its:List Qb}{X:LI}{m:Nat}{g:Int}
theorem Ft.Qai (h:Ft b w d p U Q V D P root its X m g)(a:Int){t:LU}(ha:P.dat D a=(0,t)) :
  Calls prog 45 #[.pointer (some ⟨p,0,none⟩),.int .i64 a,.int .i64 5] w λe w'=>∃A n c,e=.returned (.tuple #[.slice A n c,.int .i64 0])/\Sl w' A n c t/\Below w.1.size w w'/\∀u,A=some u->w.1.size<=u.block:=by
 obtain⟨F,G,H,y,_⟩:=h.ed.sys;have f:=qma y.Az y.pool h.ed.tab a 5;unfold qa5 at f;have B:P.Jt D a 5=0:=congrArg Prod.fst ha;have E:P.J3 D a 5=t:=congrArg Prod.snd ha;rw[B,E] at f;exact f
theorem Ft.content (h:Ft b w d p U Q V D P root its X m g)(B:OA)(q c:Nat)(a:Int)(l t:LU)(hs:Sl w B q c l)(F:(a=0/\l=t)\/(a≠0/\P.dat D a=(0,t))) :
  Calls prog 27 #[.pointer (some ⟨p,0,none⟩),.agg #[.slice B q c,.int .i64 a]] w λe w'=>∃A n k,e=.returned (.tuple #[.slice A n k,.int .i64 0])/\Sl w' A n k t/\Below w.1.size w w'/\∀g,q01 A=some g->(a=0/\q01 B=some g)\/w.1.size<=g:=by
 have E:IB (w.alloc (.cells #[.slice B q c,.int .i64 a] 53)) w.1.size [.slice B q c,.int .i64 a]:=IB.new w _ _;have f:Below w.1.size w (w.alloc (.cells #[.slice B q c,.int .i64 a] 53)):=Ql;have O:(w.alloc (.cells #[.slice B q c,.int .i64 a] 53)).1.size=w.1.size+1:=by simp
 obtain⟨Y,I⟩:∃u,w.alloc (.cells #[.slice B q c,.int .i64 a] 53)=u:=⟨_,rfl⟩;rw[I] at E f O;have c0:=E.cell 0 rfl;have c1:=E.cell 1 rfl;rcases F with⟨rfl,rfl⟩|⟨h0,F⟩
 ·have G:=hs.below f;go_enter func27,ntmps27
  go_wp2_with fail
  go_ret2;exact⟨_,_,_,rfl,G,f,λg y=>.inl ⟨by first|rfl|trivial,y⟩⟩
 ·have J:=HI ((h.below f).Qai a F);have R:(a==0)=false:=by simp;omega
  have T:decide (a=0)=false:=AH h0;go_enter func27,ntmps27
  go_wp2_with fail
  refine J.out.mono ?_;rintro e Z ⟨A,n,k,rfl,H,K,M⟩;clear J;go_wp2_with fail
  go_ret2;exact⟨_,_,_,rfl,H,f.trans (K.mono f.size),λg y=>.inr (by
   cases A with
   |none=>cases y
   |some ad=>
    have:=M ad rfl;have W:ad.block=g:=OI y;omega)⟩
theorem Ft.remove (h:Ft b w d p U Q V D P root its X m g)(hb:1<b)(k:Kd)(hfew:its.length<1000)(hX:X.length<=10000)(hfree:17<=P.C.free) :
  Calls prog 82 #[.pointer (some ⟨p,0,none⟩),.int .i64 root,.agg #[.int .i64 k.obj,.int .i64 k.kind,.int .i64 k.off]] w (Nb b w d p U Q V D P its (Vf k its) X k m g):=by
 have A:IB (w.alloc (.cells #[.int .i64 k.obj,.int .i64 k.kind,.int .i64 k.off] 81)) w.1.size [.int .i64 k.obj,.int .i64 k.kind,.int .i64 k.off]:=IB.new w _ _;have f:Below w.1.size w (w.alloc (.cells #[.int .i64 k.obj,.int .i64 k.kind,.int .i64 k.off] 81)):=Ql;obtain⟨J,G⟩:∃u,w.alloc (.cells #[.int .i64 k.obj,.int .i64 k.kind,.int .i64 k.off] 81)=u:=⟨_,rfl⟩;rw[G] at A f;have c0:=A.cell 0 rfl;have c1:=A.cell 1 rfl;have c2:=A.cell 2 rfl;have h1:=h.below f;by_cases E:∃x∈its,x.k.same k=true
 ·have y:=HI (h1.del hb k hfew hX hfree E);go_enter func82,ntmps82
  go_wp2_with fail
  refine y.out.mono ?_;rintro e I ⟨r,P',rfl,F,T,hd⟩;clear y;go_wp2_with fail
  go_ret2;exact⟨r,P',rfl,F,T.ahead f,hd⟩
 ·have y:=HI (h1.ed.Qbz hb h1.tree h1.Qh h1.fine k hfew hX E);go_enter func82,ntmps82
  go_wp2_with fail
  refine y.out.mono ?_;rintro e I ⟨rfl,H⟩;clear y;go_wp2_with fail
  go_ret2;have B:=f.trans (H.mono f.size);refine⟨root,P,rfl,?_,?_,λ_ _=>rfl⟩
  ·rw[qkp E];exact h.below B
  ·rw[qkp E];exact Yv.refl D P its X _ U V B
def Ro (P:Pl)(D:DM)(l:LU)(a:Int)(t:LU)(nm:LI):Prop:=
 (l=[]/\a=0/\t=[]/\nm=[])\/(1<=l.length/\l.length<=24/\a=0/\t=l/\nm=[])\/(∃c:Nat,1<=c/\c<=2047/\l=[]/\a=(c:Int)/\24<t.length/\P.dat D a=(0,t)/\nm=[(c:Int)])
def qr6 (b:Nat)(w:WD)(d p:Nat)(U Q V:NP)(D:DM)(P:Pl)(its:List Qb)(X:LI)(k:Kd)(t:LU)(m:Nat)(g:Int)(e:Ending)(w':WD):Prop:=
 ∃r P' its',e=.returned (.tuple #[.int .i64 r,.int .i64 0])/\Ft b w' d p U Q V D P' r its' X m g/\Yv D P P' its its' X (λq=>q=k) w w' U V/\P6 P' D (valOf its' k) t/\its'.length<=its.length+1
theorem Ft.set {nm:LI}{l t:LU}{a:Int}(h:Ft b w d p U Q V D P root its (nm++X) m g)(hb:1<b)(ino n:Int)(hi:0<=ino/\ino<=2147483647)(hn:0<=n/\n<=2147483647)(B:OA)(q c:Nat)(hs:Sl w B q c l)(Y:Ro P D l a t nm)(hfew:its.length<1000)(hX:X.length<=9000)(hfree:17<=P.C.free) :
  Calls prog 47 #[.pointer (some ⟨p,0,none⟩),.int .i64 root,.int .i64 ino,.int .i64 n,.agg #[.slice B q c,.int .i64 a]] w (qr6 b w d p U Q V D P its X ⟨ino,3,n⟩ t m g):=by
 have hl:=hs.len;have E:IB (w.alloc (.cells #[.slice B q c,.int .i64 a] 53)) w.1.size [.slice B q c,.int .i64 a]:=IB.new w _ _;have R:Below w.1.size w (w.alloc (.cells #[.slice B q c,.int .i64 a] 53)):=Ql;obtain⟨w1,a8⟩:∃u,w.alloc (.cells #[.slice B q c,.int .i64 a] 53)=u:=⟨_,rfl⟩;rw[a8] at E R;have c0:=E.cell 0 rfl;have c1:=E.cell 1 rfl;rcases Y with⟨rfl,rfl,rfl,rfl⟩|Y
 ·obtain rfl:q=0:=hl.symm;have hR:=HI (λu (I:Below w.1.size w u)=>(h.below I).remove hb ⟨ino,3,n⟩ hfew (by show X.length<=10000;omega) hfree);go_enter func47,ntmps47
  go_wp2_with fail
  refine (q37 ino n w1).mono ?_;rintro e f ⟨rfl,W⟩;have O:=E.below W E.lt;have M:=R.trans (W.mono R.size);have A:Below w.1.size w (f.alloc (.cells #[.int .i64 ino,.int .i64 3,.int .i64 n] 81)):=M.trans (Ql.mono M.size);have K:=O.below (Ql (o:=.cells #[.int .i64 ino,.int .i64 3,.int .i64 n] 81)) O.lt;have d0:=K.cell 0 rfl;have d1:=K.cell 1 rfl;go_wp2_with fail
  refine (hR.out _ A).mono ?_;rintro e w4 ⟨r,P',rfl,F,T,hd⟩;clear hR;go_wp2_with fail
  go_ret2;exact⟨r,P',_,rfl,F,T.ahead A,.inl ⟨rfl,qn1 _ _⟩,by have:=qqb ⟨ino,3,n⟩ its;omega⟩
 ·have hM:Y4 l a=true/\Pm ⟨⟨ino,3,n⟩,q0n l a⟩=nm/\l.length<=24/\(a==0&&(l.length==0))=false:=by
   rcases Y with⟨h1,h2,rfl,rfl,rfl⟩|⟨c,h1,h2,rfl,rfl,h3,h4,rfl⟩
   ·exact⟨AL (.inr ⟨rfl,h1,h2⟩),qui (qr2 (λe=>by rw[e] at h1;simp at h1)),h2,by rw[beq_eq_false_iff_ne.2 (Nat.ne_of_gt h1),Bool.and_false]⟩
   ·refine⟨AL (.inl ⟨rfl,by omega,by omega⟩),?_,by simp,by rw[show ((c:Int)==0)=false from beq_eq_false_iff_ne.2 (by omega),Bool.false_and]⟩;unfold Pm;rw[qb3 rfl (by omega)];rfl
  obtain⟨y,a6,a3,H⟩:=hM;have hx:Zt ⟨⟨ino,3,n⟩,q0n l a⟩:=⟨AL ⟨hi,by show (0:Int)<=3/\(3:Int)<=255;omega,hn⟩,qr3 l a a3⟩;rw[<-a6] at h;have hP:=HI (λu (I:Below w.1.size w u)=>(h.below I).put hb hx hfew (by show X.length<=10000;omega) hfree);have a5:=λk hk=>(h.ed.low k hk).2
  have a4:∀v,(Yo ⟨ino,3,n⟩ v false its).length<=its.length+1:=λv=>qdn h.Qh
  have HA:=HI Y;have Hm:=HI y;have G:a≠0\/(a=0/\q≠0):=by
   by_cases h0:a=0
   ·refine .inr ⟨h0,λh1=>?_⟩;rw[h0,hl,h1] at H
    cases H
   ·exact .inl h0
  have hq:q<=1000000:=by omega
  clear Y y H hx a6;rcases G with h0|⟨rfl,h0⟩
  case' inl=>
   have a0:(a==0)=false:=by simp;omega
   have a1:decide (a=0)=false:=AH h0;have Z:=HI λu (I:Below w.1.size w u)=>q5r B q c l a u (hs.below I) hq
  case' inr=>
   have a0:((q:Int)==0)=false:=by simp;omega
   have a1:decide ((q:Int)=0)=false:=AH (by omega);have Z:=HI λu (I:Below w.1.size w u)=>q5r B q c l 0 u (hs.below I) hq
  all_goals (
   go_enter func47,ntmps47
   go_wp2_with fail
   refine (q37 ino n w1).mono ?_;rintro e f ⟨rfl,W⟩;have O:=E.below W E.lt;have M:=R.trans (W.mono R.size);have b3:Below f.1.size f (f.alloc (.cells #[.int .i64 ino,.int .i64 3,.int .i64 n] 81)):=Ql;have K3:IB (f.alloc (.cells #[.int .i64 ino,.int .i64 3,.int .i64 n] 81)) f.1.size [.int .i64 ino,.int .i64 3,.int .i64 n]:=IB.new f _ _;obtain⟨w3,J⟩:∃u,f.alloc (.cells #[.int .i64 ino,.int .i64 3,.int .i64 n] 81)=u:=⟨_,rfl⟩;have A:Below w.1.size w w3:=by rw[<-J];exact M.trans (b3.mono M.size)
   have K:=O.below b3 O.lt;rw[J] at K;have d0:=K.cell 0 rfl;have d1:=K.cell 1 rfl;have hE:=HI (Z.out w3 A);rw[J] at K3;go_wp2_with fail
   refine hE.out.mono ?_;rintro e w4 ⟨-,hy,b4⟩;obtain⟨V4,n4,c4,rfl,hv,a7⟩:=hy Hm.out;clear hE;have K4:=K3.below b4 K3.lt;have k0:=K4.cell 0 rfl;have k1:=K4.cell 1 rfl;have k2:=K4.cell 2 rfl;have B4:=A.trans (b4.mono A.size);have a2:=HI (hP.out _ B4 V4 n4 c4 hv (λ_ g hg hU=>by have:=a7 g hg;have:=a5 g hU;have:=A.size;omega));go_wp2_with fail
   refine a2.out.mono ?_;rintro e w5 ⟨r,P',rfl,F,T,hd⟩;clear a2 hP;go_wp2_with fail
   go_ret2;refine⟨r,P',_,rfl,F,T.ahead B4,?_,a4 _⟩;rw[qd2 h.Qh];rcases HA.out with⟨h1,h2,h3,rfl,-⟩|⟨c',h1,h2,rfl,h3,h4,h5,-⟩
   ·first
    |exact absurd h3 h0
    |exact .inr (.inl ⟨h1,h2,rfl⟩)
   ·first
    |(subst h3
      refine .inr (.inr ⟨h4,c',h1,h2,rfl,?_⟩);rw[hd _ (F.dat (q1q (qd2 h.Qh ⟨ino,3,n⟩ (q0n [] (c':Int)))) _ (qb3 (k:=⟨ino,3,n⟩) rfl (by omega)))];exact h5)
    |(exfalso;omega))
end
theorem qgw {w:WD}(A:OA)(n c:Nat)(l:LU)(E:Sl w A n c l) :
  Calls prog 78 #[.slice A n c,.int .u8 0] w λe w'=>e=.returned (.slice A (Za l).length c)/\w=w':=by
 have hl:=E.len;have O:=E.cap;have I:=E.max;unfold maxLen at I;go_enter func78,ntmps78
 go_wp2_with fail
 go_loopw [0] (λM wr=>∃k:Nat,k<=n/\M=.slice A k c/\Za (l.take k)=Za l/\wr=w) (λM _=>match M with|.slice _ k _=>k|_=>0)
 case atStart=>exact⟨n,AE _,rfl,by rw[AN (by omega)],rfl⟩
 case round=>
  obtain⟨k,hk,rfl,f,rfl⟩:=hrel;by_cases h0:k=0
  ·subst h0;have B:(Za l).length=0:=by rw[<-f];rfl
   have G:=HI B;clear B f;go_wp2_with fail
   go_ret;exact⟨by rw[G.out];rfl,rfl⟩
  ·obtain⟨j,H⟩:∃j,k=j+1:=⟨k-1,by omega⟩;obtain⟨Z,rfl,hb,W⟩:=E.cell (show j<n by omega);have u:l.take k=l.take j++[UInt8.ofNat (Yb l j)]:=by rw[H];exact q9j l j (by omega)
   rw[u] at f;have e0:(0:Int)<(k:Int):=by omega
   have e1:IntKind.i64.wrap ((k:Int)-1)=(j:Int):=by rw[show (k:Int)-1=(j:Int) by omega];exact IntWalk.i64_in _ (by omega)
   have e2:(0:Int)<=(j:Int):=by omega
   have e3:(j:Int)<(k:Int):=by omega
   have e4:(j:Int)<=(c:Int):=by omega
   have F:=HI H;have R:=HI u;clear H u;obtain⟨x,K⟩:∃x,Yb l j=x:=⟨_,rfl⟩;rw[K] at W f;have T:=HI K;clear K;by_cases y:x=0
   ·subst y;have J:Za (l.take j)=Za l:=by
     rw[<-f];exact (qd0 _).symm
    go_wp2_with fail
    exact⟨⟨j,by have:=F.out;omega,rfl,J,trivial⟩,by have:=F.out;show j<k;omega⟩
   ·have f1:((x:Int)==0)=false:=beq_eq_false_iff_ne.2 (by omega);have f2:decide ((x:Int)=0)=false:=AH (by omega);have B:(Za l).length=k:=by
     have Y:x<=255:=by rw[<-T.out];exact q8c l j
     rw[<-f,qd1 _ (λe=>y (by have:=congrArg UInt8.toNat e;rw[UInt8.toNat_ofNat'] at this;have h3:(0:UInt8).toNat=0:=rfl;omega)),AD,AR,List.length_singleton];have:=F.out;omega
    have G:=HI B;clear B f;go_wp2_with fail
    go_ret;exact⟨by rw[G.out];rfl,rfl⟩
theorem qen {w:WD}(A:OA)(n c:Nat)(l:LU)(y:Sl w A n c l) :
  Calls prog 46 #[.slice A n c,.string ⟨#[0]⟩] w λe w'=>e=.returned (.slice A (Za l).length c)/\w=w':=by
 have G:=y.len;have f:=HI (qgw A n c l y);have K:((⟨#[0]⟩:ByteArray).toList==(⟨#[]⟩:ByteArray).toList)=false:=by decide +kernel
 go_enter func46,ntmps46
 by_cases h0:n=0
 ·subst h0;have B:(Za l).length=0:=by rw[BF G];rfl
  have E:=HI B;clear B f;go_wp2_with fail
  go_ret;exact⟨by rw[E.out];rfl,rfl⟩
 ·have I:((n:Int)==0)=false:=beq_eq_false_iff_ne.2 (by omega);have J:decide ((n:Int)=0)=false:=AH (by omega);have F:∀u:WD,(Instr.index 9 (.string ⟨#[0]⟩) (.int .i64 0)).run prog u=.ok (.int .u8 0) u:=λu=>by
   rw[run_index_string u 9 ⟨#[0]⟩ .i64 _ underlying9,dif_pos (by decide)];rfl
  have H:(⟨#[0]⟩:ByteArray).size=1:=rfl;go_wp2_with fail
  refine f.out.mono ?_;rintro e M ⟨rfl,rfl⟩;clear f;go_wp2_with fail
  go_ret;exact⟨rfl,rfl⟩
def Y8 (P:Pl)(a:Nat):Prop:=P.C.first+P.C.kept+a+20<=P.C.n
section
variable {b:Nat}{w w':WD}{d p:Nat}{U Q V:NP}{D:DM}{P P':Pl}{root r:Int}{its its':List Qb}{X X':LI}{m:Nat}{g:Int}{N:Kd->Prop}
theorem Y8.to {a:Nat}(h:Y8 P a)(T:Yv D P P' its its' X N w w' U V):Y8 P' a:=by
 unfold Y8 at h ⊢;have e:=qgp T.like T.n;have f:P'.C.first=P.C.first:=by unfold Ct.first;rw[T.n]
 rw[e,f,T.n];exact h
theorem Ft.free (h:Ft b w d p U Q V D P root its X m g){a:Nat}(hR:Y8 P a)(ha:2*its.length+X.length<=a+1):18<=P.C.free:=by
 have h1:=h.room;unfold Y8 at hR;omega
theorem Ft.Qcx {l:LU}{a:Nat}(h:Ft b w d p U Q V D P root its X m g)(hb:1<b)(ino n:Int)(hi:0<=ino/\ino<=2147483647)(hn:0<=n/\n<=2147483647)(B:OA)(q c:Nat)(hs:Sl w B q c l)(hl:l.length<=128)(hB:∀g,q01 B=some g->¬U g)(hR:Y8 P a)(ha:2*its.length+X.length<=a)(hfew:its.length<1000)(hX:X.length<=8000) :
  Calls prog 28 #[.pointer (some ⟨p,0,none⟩),.int .i64 root,.int .i64 ino,.int .i64 n,.slice B q c] w (qr6 b w d p U Q V D P its X ⟨ino,3,n⟩ (Za l) m g):=by
 have A:=HI (qen B q c l hs);have hk:=qgt l;have a1:=hs.len;have f:Sl w B (Za l).length c (Za l):=by
  have:=hs.take (k:=(Za l).length) (by omega);rwa [<-qmz] at this
 obtain⟨t,ht⟩:∃t,Za l=t:=⟨_,rfl⟩;rw[ht] at A hk f ⊢;obtain⟨k,u⟩:∃k,t.length=k:=⟨_,rfl⟩;have I:=HI u;rw[u] at A hk f;clear u;by_cases J:k<=24
 ·have E:(k:Int)<=24:=by omega
  have Z:Ro P D t 0 t []:=by
   by_cases h0:t=[]
   ·subst h0;exact .inl ⟨rfl,rfl,rfl,rfl⟩
   ·refine .inr (.inl ⟨?_,by rw[I.out];exact J,rfl,rfl,rfl⟩);exact List.length_pos_iff.2 h0
  have G:=HI (Ft.set (nm:=[]) h hb ino n hi hn B k c f Z hfew (by omega) (by have:=h.free hR (by omega);omega));clear Z;go_enter func28,ntmps28
  go_wp2_with fail
  refine A.out.mono ?_;rintro e w2 ⟨rfl,rfl⟩;clear A;go_wp2_with fail
  refine G.out.mono ?_;rintro e R ⟨r,P',its',rfl,F,T,K,y⟩;clear G;go_wp2_with fail
  go_ret2;exact⟨r,P',its',rfl,F,T,K,y⟩
 ·have E:¬(k:Int)<=24:=by omega
  have hf:=h.free hR (by omega);have hP:=HI (h.bytes hb (by omega) (by rw[I.out];omega) B k c f hB);go_enter func28,ntmps28
  go_wp2_with fail
  refine A.out.mono ?_;rintro e w2 ⟨rfl,rfl⟩;clear A;go_wp2_with fail
  refine hP.out.mono ?_;rintro e R ⟨z,P1,rfl,W,Y,hd,M,O⟩;have H:Ft b R d p U Q V D P1 root its ([(z:Int)]++X) m g:=W;have a0:=W.free (hR.to Y) (by rw[AX];omega);have G:=HI (H.set hb ino n hi hn none 0 0 (Ah R) (l:=[]) (t:=t) (a:=(z:Int)) (.inr (.inr ⟨z,M,O,rfl,rfl,by rw[I.out];omega,hd,rfl⟩)) hfew (by omega) (by omega));clear hP;go_wp2_with fail
  refine G.out.mono ?_;rintro e w4 ⟨r,P',its',rfl,F,T,K,y⟩;clear G;go_wp2_with fail
  go_ret2;exact⟨r,P',its',rfl,F,(Y.trans T λ_ h=>h).wider (λq hq=>hq.resolve_left id),K,y⟩
def Qbp (b:Nat)(w:WD)(d p:Nat)(U Q V:NP)(D:DM)(P:Pl)(its:List Qb)(X:LI)(ino:Int)(first cnt:Nat)(f:Nat->LU)(m:Nat)(g:Int)(e:Ending)(w':WD):Prop:=
 ∃r P' its',e=.returned (.tuple #[.int .i64 r,.int .i64 0])/\Ft b w' d p U Q V D P' r its' X m g/\Yv D P P' its its' X (λq=>∃i,i<cnt/\q=⟨ino,3,((first+i:Nat):Int)⟩) w w' U V/\(∀i,i<cnt->P6 P' D (valOf its' ⟨ino,3,((first+i:Nat):Int)⟩) (f i))/\its'.length<=its.length+cnt
theorem Ft.lay {l:LU}{a cnt:Nat}(h:Ft b w d p U Q V D P root its X m g)(hb:1<b)(ino:Int)(first:Nat)(hi:0<=ino/\ino<=2147483647)(hf:first<=100)(B:OA)(c:Nat)(hs:Sl w B (128*cnt) c l)(hc:cnt<=64)(hB:∀g,q01 B=some g->¬U g)(hR:Y8 P a)(ha:2*(its.length+cnt)+X.length<=a)(hfew:a<1900) :
  Calls prog 17 #[.pointer (some ⟨p,0,none⟩),.int .i64 root,.int .i64 ino,.int .i64 (first:Int),.slice B (128*cnt) c] w (Qbp b w d p U Q V D P its X ino first cnt (λi=>Za ((l.drop (128*i)).take 128)) m g):=by
 have a6:=hs.len;have K:=hs.cap;have a4:=hs.max;unfold maxLen at a4;obtain⟨n,hn⟩:∃n,128*cnt=n:=⟨_,rfl⟩;rw[hn] at hs a6 K ⊢;have Hn:=HI hn;have hq:(n:Int).tdiv 128=(cnt:Int):=by
  rw[Int.tdiv_eq_ediv_of_nonneg (by omega)];omega
 have a9:=λk hk=>(h.ed.low k hk).2
 clear hn;go_enter func17,ntmps17
 go_wp2_with fail
 go_loopw [1,17] (λrv iv wr=>∃(i:Nat) (r:Int) (P':Pl) (its':List Qb),i<=cnt/\rv=.int .i64 r/\iv=.int .i64 (i:Int)/\Ft b wr d p U Q V D P' r its' X m g/\Yv D P P' its its' X (λq=>∃j,j<i/\q=⟨ino,3,((first+j:Nat):Int)⟩) w wr U V/\(∀j,j<i->P6 P' D (valOf its' ⟨ino,3,((first+j:Nat):Int)⟩) (Za ((l.drop (128*j)).take 128)))/\its'.length<=its.length+i) (λ_ iv _=>cnt-(intOf iv).toNat)
 case atStart=>exact⟨0,root,P,its,AW _,rfl,rfl,h,Yv.refl D P its X _ U V (AI _ _),λj hj=>absurd hj (by omega),by omega⟩
 case round=>
  obtain⟨i,r,P',its',b1,rfl,rfl,F,T,J,a3⟩:=hrel;by_cases b2:i<cnt
  ·have e0:(0:Int)<=(i:Int):=by omega
   have e1:(i:Int)<(cnt:Int):=by omega
   obtain⟨H,u⟩:∃H,first+i=H:=⟨_,rfl⟩
   obtain⟨lo,R⟩:∃lo,128*i=lo:=⟨_,rfl⟩;obtain⟨E,O⟩:∃E,i+1=E:=⟨_,rfl⟩;obtain⟨up,a7⟩:∃up,lo+128=up:=⟨_,rfl⟩;have hn:=Hn.out;have w1:IntKind.i64.wrap ((first:Int)+(i:Int))=(H:Int):=by rw[show (first:Int)+(i:Int)=(H:Int) by omega];exact IntWalk.i64_in _ (by omega)
   have w2:IntKind.i64.wrap ((i:Int)*128)=(lo:Int):=by rw[show (i:Int)*128=(lo:Int) by omega];exact IntWalk.i64_in _ (by omega)
   have w3:IntKind.i64.wrap ((i:Int)+1)=(E:Int):=by rw[show (i:Int)+1=(E:Int) by omega];exact IntWalk.i64_in _ (by omega)
   have w4:IntKind.i64.wrap ((E:Int)*128)=(up:Int):=by rw[show (E:Int)*128=(up:Int) by omega];exact IntWalk.i64_in _ (by omega)
   have l0:(0:Int)<=(lo:Int):=by omega
   have l1:(lo:Int)<=(up:Int):=by omega
   have l2:(0:Int)<=(up:Int):=by omega
   have l3:(up:Int)<=(c:Int):=by omega
   have l4:up-lo=128:=by omega
   obtain⟨G,A⟩:∃G,Option.map (λx=>x.add lo) B=G:=⟨_,rfl⟩;have W:Sl wr G 128 (c-lo) ((l.drop lo).take 128):=by
    rw[<-A,<-(AB (by omega):(if c=lo then B else B.map (·.add lo))=_)];exact ((hs.turned T.D9 hB).drop (k:=lo) (by omega)).take (k:=128) (by omega)
   have I:∀g,q01 G=some g->q01 B=some g:=λg M=>by
    rw[<-A] at M
    cases B with
    |none=>cases M
    |some ad=>rw[<-M];show some ad.block=some (ad.add lo).block;rw[Ov]
   have f:=F.Qcx hb ino (H:Int) hi (by omega) G 128 (c-lo) W (by rw[AR];omega) (λg M=>hB g (I g M)) (hR.to T) (a:=a) (by omega) (by omega) (by omega);replace f:=HI f;have Y:=HI u;have Z:=HI R;have b0:=HI O;clear u R O a7 hn W I;have HF:=HI F;have HT:=HI T;have HC:=HI J;clear F T J;go_wp2_with fail
   refine f.out.mono ?_;rintro e w5 ⟨r5,P5,y,rfl,F5,T5,a0,a8⟩;clear f;have u:=Y.out;subst u;have hT:=(HT.out.trans T5 λ_ h=>h).wider (N':=λq=>∃j,j<i+1/\q=⟨ino,3,((first+j:Nat):Int)⟩) λq hq=>by
    rcases hq with⟨j,hj,rfl⟩|rfl
    ·exact⟨j,by omega,rfl⟩
    ·exact⟨i,by omega,rfl⟩
   have J:∀j,j<i+1->P6 P5 D (valOf y ⟨ino,3,((first+j:Nat):Int)⟩) (Za ((l.drop (128*j)).take 128)):=λj hj=>by
    by_cases a2:j=i
    ·subst a2;rw[Z.out];exact a0
    ·have a5:¬((⟨ino,3,((first+j:Nat):Int)⟩:Kd)=⟨ino,3,((first+i:Nat):Int)⟩):=λe=>by
      injection e with _ _ e;omega
     obtain⟨s1,s2⟩:=T5.same _ a5;rw[s1];exact s2 rfl _ (HC.out j (by omega))
   clear w1 w2 w3 w4 l4 A;go_wp2_with fail
   exact⟨⟨i+1,r5,P5,y,by omega,rfl,by go_num,F5,hT,J,by omega⟩,by simp[intOf];omega⟩
  ·have a1:i=cnt:=by omega
   subst a1;go_wp2_with fail
   go_ret2;exact⟨r,P',its',rfl,F,T,J,a3⟩
end
theorem q81 {L e:LU}{off:Nat}(h:off+e.length<=L.length)(i:Nat):Xq (splice L off e) i=if off<=i/\i<off+e.length then Xq e (i-off) else Xq L i:=by
 unfold splice;by_cases h1:i<off
 ·rw[q9d (by rw[AR];omega),q2k,AA h1,AB (by omega)]
 ·rw[q72 (by rw[AR];omega),AR,Nat.min_eq_left (by omega)];by_cases h2:i<off+e.length
  ·rw[q9d (by omega),AA ⟨by omega,h2⟩]
  ·rw[q72 (by omega),q2l,AB (by omega)];congr 1
   omega
section
variable {P:Pl}{D:DM}{its:List Qb}{ino:Int}{bs:LU}{fr up:Nat}
theorem ql2 {x:Qb}:x∈within ⟨ino,3,(fr:Int)⟩ ⟨ino,3,(up:Int)⟩ its↔x∈its/\∃c:Nat,x.k=⟨ino,3,(c:Int)⟩/\fr<=c/\c<=up:=by
 unfold within;rw[List.mem_filter];refine and_congr_right λ_=>?_
 constructor
 ·intro h;obtain⟨h1,h2⟩:=Bool.and_eq_true_iff.1 h;have h1:¬x.k.less ⟨ino,3,(fr:Int)⟩=true:=by simpa using h1
  have h2:¬Kd.less ⟨ino,3,(up:Int)⟩ x.k=true:=by simpa using h2
  rw[Kd.Uk] at h1 h2;dsimp only at h1 h2;obtain⟨k,v⟩:=x;obtain⟨o,B,f⟩:=k;dsimp only at h1 h2 ⊢;refine⟨f.toNat,?_,by omega,by omega⟩;have u:o=ino:=by omega
  have y:B=3:=by omega
  have A:f=((f.toNat:Nat):Int):=by omega
  rw[<-A,u,y]
 ·rintro⟨c,h,h1,h2⟩;rw[h];refine Bool.and_eq_true_iff.2 ⟨?_,?_⟩
  ·have:Kd.less ⟨ino,3,(c:Int)⟩ ⟨ino,3,(fr:Int)⟩=false:=by
    cases e:Kd.less ⟨ino,3,(c:Int)⟩ ⟨ino,3,(fr:Int)⟩ with
    |false=>rfl
    |true=>
     have:=(Kd.Uk _ _).1 e;dsimp only at this;omega
   rw[this];rfl
  ·have:Kd.less ⟨ino,3,(up:Int)⟩ ⟨ino,3,(c:Int)⟩=false:=by
    cases e:Kd.less ⟨ino,3,(up:Int)⟩ ⟨ino,3,(c:Int)⟩ with
    |false=>rfl
    |true=>
     have:=(Kd.Uk _ _).1 e;dsimp only at this;omega
   rw[this];rfl
def Iw (P:Pl)(D:DM)(v t:LU):Prop:=Yy v=true/\t≠[]/\((Yk v=0/\Ur v=t)\/(Yk v≠0/\Ur v=[]/\24<t.length/\P.dat D (Yk v)=(0,t)))
theorem qiq {v t:LU}(h:P6 P D (some v) t):Iw P D v t:=by
 rcases h with⟨_,h⟩|⟨h1,h2,A⟩|⟨h1,a,h2,A,B,E⟩
 ·cases h
 ·have e:=OI A;obtain⟨u,f,y⟩:=qkw t 0 (AL (.inr ⟨rfl,h1,h2⟩));rw[e];exact⟨u,λh=>by rw[h] at h1;simp at h1,.inl ⟨f,y⟩⟩
 ·have e:=OI B;obtain⟨u,f,y⟩:=qkw [] (a:Int) (AL (.inl ⟨rfl,by omega,by omega⟩));rw[e];exact⟨u,λh=>by rw[h] at h1;simp at h1,.inr ⟨by rw[f];omega,y,h1,by rw[f];exact E⟩⟩
theorem J5.item (F:J5 P D its ino bs)(hr:Qh its){x:Qb}(hx:x∈its){c:Nat}(hk:x.k=⟨ino,3,(c:Int)⟩)(hc:c<=2147483647):Iw P D x.v (Jb bs c):=by
 refine qiq ?_;have:=F.at_ c hc;rwa [<-hk,q6m hr x hx] at this
theorem J5.there (F:J5 P D its ino bs){c:Nat}(hc:c<=2147483647)(h:Jb bs c≠[]):∃x∈its,x.k=⟨ino,3,(c:Int)⟩:=by
 have h1:=F.at_ c hc
 cases e:valOf its ⟨ino,3,(c:Int)⟩ with
 |some v=>exact⟨_,q1q e,rfl⟩
 |none=>
  rw[e] at h1;rcases h1 with⟨h1,_⟩|⟨_,_,h1⟩|⟨_,_,_,_,h1,_⟩
  ·exact absurd h1 h
  ·cases h1
  ·cases h1
def Buf (bs:LU)(fr M:Nat)(S:List Qb)(R:LU):Prop:=
 R.length=M/\∀i,i<M->((∃y∈S,y.k.off=((fr+i / 128:Nat):Int))->Xq R i=Xq bs (128*fr+i))/\((¬∃y∈S,y.k.off=((fr+i / 128:Nat):Int))->Xq R i=0)
theorem qr7 (bs:LU)(fr M:Nat):Buf bs fr M [] (zeros M):=⟨BK ..,λi _=>⟨λ⟨_,h,_⟩=>absurd h List.not_mem_nil,λ_=>qek M i⟩⟩
theorem qup {M:Nat}{S:List Qb}{R:LU}{x:Qb}{c:Nat}(h:Buf bs fr M S R)(G:x.k.off=(c:Int))(hn:∀y∈S,y.k.off≠(c:Int))(J:fr<=c)(I:128*(c-fr)+128<=M):Buf bs fr M (S++[x]) (splice R (128*(c-fr)) (Jb bs c)):=by
 obtain⟨H,E⟩:=h;have O:=qgv bs c;refine⟨by rw[length_splice _ _ _ (by omega)];exact H,λi hi=>?_⟩;have f:(∃y∈S++[x],y.k.off=((fr+i / 128:Nat):Int))↔(∃y∈S,y.k.off=((fr+i / 128:Nat):Int))\/fr+i / 128=c:=by
  constructor
  ·rintro⟨y,u,e⟩;rcases List.mem_append.1 u with u|u
   ·exact .inl ⟨y,u,e⟩
   ·rw[List.mem_singleton.1 u,G] at e;exact .inr (by omega)
  ·rintro (⟨y,u,e⟩|e)
   ·exact⟨y,List.mem_append_left _ u,e⟩
   ·exact⟨x,AU _ (List.mem_singleton.2 rfl),by rw[G,e]⟩
 rw[q81 (by omega),f];replace f:=HI f;have E:=HI (E i hi);by_cases A:fr+i / 128=c
 ·have K:128*(c-fr)<=i/\i<128*(c-fr)+128:=by omega
  have F:Xq (Jb bs c) (i-128*(c-fr))=Xq bs (128*fr+i):=by
   rw[qgu,AA (by omega)];congr 1
   omega
  refine⟨λ_=>?_,λB=>absurd (.inr A) B⟩;split
  ·exact F
  ·next hlt=>
   have h0:=E.out.2 (λ⟨y,u,e⟩=>hn y u (by rw[e,A]));rw[h0,<-F];exact (q6a (by omega)).symm
 ·have B:¬(128*(c-fr)<=i/\i<128*(c-fr)+(Jb bs c).length):=by omega
  rw[AB B];exact⟨λh=>E.out.1 (h.resolve_right A),λh=>E.out.2 λe=>h (.inl e)⟩
theorem qxj {M:Nat}{R:LU}(F:J5 P D its ino bs)(E:up<=2147483647)(H:M=128*(up-fr+1))(B:fr<=up)(h:Buf bs fr M (within ⟨ino,3,(fr:Int)⟩ ⟨ino,3,(up:Int)⟩ its) R):R.length=M/\∀i,i<M->Xq R i=Xq bs (128*fr+i):=by
 refine⟨h.1,λi hi=>?_⟩;have A:fr+i / 128<=up:=by omega
 by_cases e:∃y∈within ⟨ino,3,(fr:Int)⟩ ⟨ino,3,(up:Int)⟩ its,y.k.off=((fr+i / 128:Nat):Int)
 ·exact (h.2 i hi).1 e
 ·rw[(h.2 i hi).2 e];have h0:Jb bs (fr+i / 128)=[]:=Classical.byContradiction λf=>by
   obtain⟨x,G,u⟩:=F.there (c:=fr+i / 128) (by omega) f;exact e ⟨x,ql2.2 ⟨G,_,u,by omega,A⟩,by rw[u]⟩
  have:=qn0 h0 (j:=i % 128) (Nat.mod_lt _ (by omega));rw[<-this];congr 1
  omega
end
theorem Qcq {L:List Qb}{j:Nat}(h:j<L.length):(L.map Si)[j]?=some (Si (Qw L j)):=by rw[BA,q13 h];rfl
theorem qr8 {L:List Qb}{ino:Int}{j:Nat}(F:Qh L)(u:∀x∈L,∃c:Nat,x.k=⟨ino,3,(c:Int)⟩)(f:j<L.length):∀y∈L.take j,y.k.off≠(Qw L j).k.off:=λy G e=>by
 obtain⟨i,hi,rfl⟩:=List.getElem_of_mem G;rw[AR] at hi;rw[List.getElem_take] at e;have h1:=List.pairwise_iff_getElem.1 F i j (by omega) f (by omega);obtain⟨a,A⟩:=u _ (List.getElem_mem (show i<L.length by omega));obtain⟨b,B⟩:=u _ (List.getElem_mem f);have E:Qw L j=L[j]:=by
  have:=q13 f;rw[AC f] at this;exact (OI this).symm
 rw[E,A,B] at e;rw[A,B,Kd.Uk] at h1;dsimp only at e h1;omega
section
variable {b:Nat}{w:WD}{d p:Nat}{U Q V:NP}{D:DM}{P:Pl}{root:Int}{its:List Qb}{X:LI}{m:Nat}{g:Int}
theorem Ft.around {ino:Int}{bs:LU}(h:Ft b w d p U Q V D P root its X m g)(F:J5 P D its ino bs)(hlen:its.length<=1000)(off n:Nat)(hn:1<=n)(ho:off+n<=8192) :
  Calls prog 16 #[.pointer (some ⟨p,0,none⟩),.int .i64 root,.int .i64 ino,.int .i64 (off:Int),.int .i64 (n:Int)] w λe w'=>∃(gb M at_:Nat) (R:LU),e=.returned (.tuple #[.slice (some ⟨gb,0,none⟩) M M,.int .i64 (at_:Int),.int .i64 0])/\M=128*((off+n-1) / 128-off / 128+1)/\at_=off-128*(off / 128)/\Own w' w.1.size 5 (some ⟨gb,0,none⟩) M M R/\(R.length=M/\∀i,i<M->Xq R i=Xq bs (128*(off / 128)+i))/\Below w.1.size w w':=by
 obtain⟨fr,b0⟩:∃fr,off / 128=fr:=⟨_,rfl⟩;obtain⟨up,d1⟩:∃up,(off+n-1) / 128=up:=⟨_,rfl⟩;obtain⟨M,hM⟩:∃M,128*(up-fr+1)=M:=⟨_,rfl⟩;rw[b0,d1,hM];have d9:fr<=up:=by omega
 have q1:(off:Int).tdiv 128=(fr:Int):=by rw[Int.tdiv_eq_ediv_of_nonneg (by omega)];omega
 have w1:IntKind.i64.wrap ((off:Int)+(n:Int))=((off+n:Nat):Int):=by rw[show (off:Int)+(n:Int)=((off+n:Nat):Int) by omega];exact IntWalk.i64_in _ (by omega)
 obtain⟨on,b3⟩:∃on,off+n=on:=⟨_,rfl⟩;rw[b3] at w1;have w2:IntKind.i64.wrap ((on:Int)-1)=((on-1:Nat):Int):=by rw[show (on:Int)-1=((on-1:Nat):Int) by omega];exact IntWalk.i64_in _ (by omega)
 obtain⟨o1,b2⟩:∃o1,on-1=o1:=⟨_,rfl⟩;rw[b2] at w2;have q2:(o1:Int).tdiv 128=(up:Int):=by rw[Int.tdiv_eq_ediv_of_nonneg (by omega)];omega
 have w3:IntKind.i64.wrap ((up:Int)-(fr:Int))=((up-fr:Nat):Int):=by rw[show (up:Int)-(fr:Int)=((up-fr:Nat):Int) by omega];exact IntWalk.i64_in _ (by omega)
 obtain⟨uf,d0⟩:∃uf,up-fr=uf:=⟨_,rfl⟩;rw[d0] at w3;have w4:IntKind.i64.wrap ((uf:Int)+1)=((uf+1:Nat):Int):=by rw[show (uf:Int)+1=((uf+1:Nat):Int) by omega];exact IntWalk.i64_in _ (by omega)
 obtain⟨u1,c9⟩:∃u1,uf+1=u1:=⟨_,rfl⟩;rw[c9] at w4;have w5:IntKind.i64.wrap ((u1:Int)*128)=(M:Int):=by rw[show (u1:Int)*128=(M:Int) by omega];exact IntWalk.i64_in _ (by omega)
 have w6:IntKind.i64.wrap ((fr:Int)*128)=((128*fr:Nat):Int):=by rw[show (fr:Int)*128=((128*fr:Nat):Int) by omega];exact IntWalk.i64_in _ (by omega)
 obtain⟨f1,a4⟩:∃f1,128*fr=f1:=⟨_,rfl⟩;rw[a4] at w6 ⊢;have w7:IntKind.i64.wrap ((off:Int)-(f1:Int))=((off-f1:Nat):Int):=by rw[show (off:Int)-(f1:Int)=((off-f1:Nat):Int) by omega];exact IntWalk.i64_in _ (by omega)
 obtain⟨aa,H⟩:∃aa,off-f1=aa:=⟨_,rfl⟩;rw[H] at w7 ⊢;have e9:M<=8320:=by omega
 have HN:=HI (And.intro hM (And.intro a4 H));obtain⟨L,hL⟩:∃L,within ⟨ino,3,(fr:Int)⟩ ⟨ino,3,(up:Int)⟩ its=L:=⟨_,rfl⟩;have u:∀x∈L,x∈its/\∃c:Nat,x.k=⟨ino,3,(c:Int)⟩/\fr<=c/\c<=up:=λx Y=>ql2.1 (by rw[hL];exact Y)
 have d2:up<=2147483647:=by omega
 have E:∀x∈L,∀c:Nat,x.k=⟨ino,3,(c:Int)⟩->c<=up->Iw P D x.v (Jb bs c):=λx Y c Z hc=>F.item h.Qh (u x Y).1 Z (by omega)
 have hI:=HI (qn3 (h.told hlen) h.ed.tab hL (λx Y=>by
  obtain⟨_,c,Z,_,hc⟩:=u x Y;exact (E x Y c Z hc).1))
 have b6:Go.Proofs.YtloolbmdiimanaaGreatDoor.Qh L:=by rw[<-hL];exact h.Qh.filter _
 have K:∀j,j<L.length->∀y∈L.take j,y.k.off≠(Qw L j).k.off:=λj hj=>qr8 b6 (λx Y=>by obtain⟨_,c,Z,_⟩:=u x Y;exact⟨c,Z⟩) hj
 replace K:=HI K;have a9:=HI (λR (hB:Buf bs fr M L R)=>qxj F d2 hM.symm d9 (by rw[hL];exact hB));have a6:=HI u;have a2:=HI E;clear u E hL b0 d1 hM b3 b2 d0 c9 a4 H F b6;go_enter func16,ntmps16
 go_wp2_with fail
 refine hI.out.mono ?_;rintro e wa ⟨A,n1,c1,rfl,hC,ba⟩;clear hI;have e4:=hC.len (by omega);rw[AF] at e4;obtain⟨e6,e3⟩:=hC.bounds (by omega);unfold maxLen at e3;go_wp2_with (first
  |(refine qf3 wa Bv rfl (.tmp 43) (.tmp 43) rfl .i64 .i64 M rfl rfl (by omega) ?_;intro wb own bb)
  |fail)
 have HC:=HI hC;have hz:=ba.size;clear hC;go_wp2_with fail
 go_loopw [10,47] (λbv iv wr=>∃(j:Nat) (R:LU),j<=n1/\iv=.int .i64 (j:Int)/\bv=.slice (some ⟨wa.1.size,0,none⟩) M M/\Own wr wa.1.size 5 (some ⟨wa.1.size,0,none⟩) M M R/\Buf bs fr M (L.take j) R/\Below wa.1.size wa wr) (λ_ iv _=>n1-(intOf iv).toNat)
 case atStart=>exact⟨0,zeros M,AW _,rfl,rfl,own,qr7 bs fr M,bb⟩
 case round=>
  clear own bb;obtain⟨j,R,hj,rfl,rfl,own,hB,BB⟩:=hrel;have BW:=ba.trans (BB.mono hz);by_cases f4:j<n1
  ·have a0:j<L.length:=by omega
   have b9:L.take (j+1)=L.take j++[Qw L j]:=by rw[List.take_add_one,q13 a0];rfl
   have a1:=K.out j a0;have a5:Qw L j∈L:=List.mem_of_getElem? (q13 a0);obtain⟨g1,W,p1,q1,rfl,f2,f3,B,T,b1⟩:=(HC.out.below BB).at_ (by omega) (Qcq a0);obtain⟨x,Y⟩:∃x,Qw L j=x:=⟨_,rfl⟩;rw[Y] at b9 a1 a5 B T b1;obtain⟨-,c,Z,d8,d7⟩:=a6.out x a5;obtain⟨-,e8,f⟩:=a2.out x a5 c Z d7;rw[show x.k.off=(c:Int) by rw[Z]] at a1;have r0:=B 0 _ rfl;have r1:=B 1 _ rfl;have r2:=B 2 _ rfl;rw[Nat.add_zero] at r0;rw[show (Si x).c=(c:Int) by show x.k.off=_;rw[Z]] at r0;change Sl wr W p1 q1 (Ur x.v) at T;change wr.cell? ⟨g1,j*3+2,none⟩=some (.int .i64 (Yk x.v)) at r2;obtain⟨l,hl⟩:∃l,Ur x.v=l:=⟨_,rfl⟩;obtain⟨a,ha⟩:∃a,Yk x.v=a:=⟨_,rfl⟩;obtain⟨t,ht⟩:∃t,Jb bs c=t:=⟨_,rfl⟩;rw[hl] at T f;rw[ha] at r2 f;rw[ht] at f;have e5:t.length<=128:=by rw[<-ht];exact qgv bs c
   have J:(a=0/\l=t)\/(a≠0/\P.dat D a=(0,t)):=f.imp id λh=>⟨h.1,h.2.2.2⟩
   have e0:(0:Int)<=(j:Int):=by omega
   have e1:(j:Int)<(n1:Int):=by omega
   have bx:Below wr.1.size wr (wr.alloc (.cells #[.int .i64 (c:Int),.slice W p1 q1,.int .i64 a] 55)):=Ql;have Kx:IB (wr.alloc (.cells #[.int .i64 (c:Int),.slice W p1 q1,.int .i64 a] 55)) wr.1.size [.int .i64 (c:Int),.slice W p1 q1,.int .i64 a]:=IB.new wr _ _;have a7:=HI ((h.below (BW.trans (bx.mono BW.size))).content W p1 q1 a l t (T.below bx) J);have HB:=HI hB;have O:=own;clear hB B f J T hl ha Y;obtain⟨hM,-,-⟩:=HN.out;obtain⟨cf,a3⟩:∃cf,c-fr=cf:=⟨_,rfl⟩;obtain⟨G,b4⟩:∃G,128*cf=G:=⟨_,rfl⟩;have v1:IntKind.i64.wrap ((c:Int)-(fr:Int))=(cf:Int):=by rw[show (c:Int)-(fr:Int)=(cf:Int) by omega];exact IntWalk.i64_in _ (by omega)
   have v2:IntKind.i64.wrap ((cf:Int)*128)=(G:Int):=by rw[show (cf:Int)*128=(G:Int) by omega];exact IntWalk.i64_in _ (by omega)
   have e7:G+128<=M:=by omega
   have p0:(0:Int)<=(G:Int):=by omega
   have f6:(G:Int)<=(M:Int):=by omega
   have f0:¬M=G:=by omega
   have a8:=HI (qup HB.out (x:=x) (by rw[Z]) a1 d8 (by rw[a3];omega));have d6:=HI (show 128*(c-fr)=G by rw[a3,b4]);clear hM a3 b4 a1;go_wp2_with fail
   refine a7.out.mono ?_;rintro e w5 ⟨A5,n5,k5,rfl,b8,b5,-⟩;clear a7 r0 r1 r2;have K5:=Kx.below b5 Kx.lt;have k0:=K5.cell 0 rfl;have B5:=bx.trans (b5.mono bx.size);have d3:=own.below B5;have f5:=b8.len;clear O Kx;go_wp2_with (first
    |((with_reducible show wpList _ _ _ _ _ _);refine q4w Bv rfl (.tmp 67) (.tmp 68) rfl wa.1.size wa.1.size M R d3 G (M-G) (M-G) rfl A5 n5 k5 t rfl b8 (by omega) (by omega) ?_;intro w7 d4 b7)
    |fail)
   have I:=a8.out;rw[d6.out,ht] at I;have d5:=(BB.trans (B5.mono BB.size)).trans b7;exact⟨⟨j+1,splice R G t,by omega,by go_num,rfl,d4,by rw[b9];exact I,d5⟩,by simp[intOf];omega⟩
  ·have e2:j=n1:=by omega
   subst e2;rw[AN (by omega)] at hB;have hE:=a9.out R hB;obtain⟨hM,-,H⟩:=HN.out;have O:=own.less hz;have HE:=HI hE;clear hB own hE hM H;go_wp2_with fail
   go_ret3;exact⟨wa.1.size,M,aa,R,rfl,rfl,rfl,O,by have:=HE.out;rw[HN.out.2.1] at this;exact this,BW⟩
end
