/- The code's file: Write -/
import Derived.Test.YtloolbmdiimanaaGreatDoorFv45
namespace Go.Proofs.YtloolbmdiimanaaGreatDoor
open Go Go.RowKit Go.Proofs Tryz
set_option maxHeartbeats 8000000
set_option maxRecDepth 100000
theorem qir (x l u:Int)(w:WD):Calls prog 26 #[.int .i64 x,.int .i64 l,.int .i64 u] w λe w'=>e=.returned (.bool (decide (l<=x/\x<=u)))/\w=w':=by
 by_cases h1:l<=x
 ·by_cases h2:x<=u
  ·have hd:decide (l<=x/\x<=u)=true:=AL ⟨h1,h2⟩;rw[hd];go_enter func26,ntmps26
   go_wp2_with fail
   go_ret;exact⟨rfl,rfl⟩
  ·have hd:decide (l<=x/\x<=u)=false:=AH λh=>h2 h.2
   rw[hd];go_enter func26,ntmps26
   go_wp2_with fail
   go_ret;exact⟨rfl,rfl⟩
 ·have hd:decide (l<=x/\x<=u)=false:=AH λh=>h1 h.1
  rw[hd];go_enter func26,ntmps26
  go_wp2_with fail
  go_ret;exact⟨rfl,rfl⟩
theorem qis (x:Int)(f:0<=x/\x<=2147483647)(w:WD):Calls prog 15 #[.int .i64 x] w λe w'=>e=.returned (.bool true)/\w=w':=by
 have h:=qir x 0 2147483647 w;rw[AL f] at h;replace h:=HI h;go_enter func15,ntmps15
 go_wp2_with fail
 refine h.out.mono ?_;rintro e u ⟨rfl,rfl⟩;go_wp2_with fail
 go_ret;exact⟨rfl,rfl⟩
def Vb (e:LU)(off:Nat)(x:LU):LU:=splice (e++zeros (off+x.length-e.length)) off x
theorem q73 (e:LU)(off:Nat)(x:LU):(Vb e off x).length=max e.length (off+x.length):=by
 unfold Vb;rw[length_splice _ _ _ (by rw[AD];unfold zeros;rw[BK];omega),AD];unfold zeros;rw[BK];omega
theorem qb4 (e:LU)(off:Nat)(x:LU)(i:Nat):Xq (Vb e off x) i=if off<=i/\i<off+x.length then Xq x (i-off) else Xq e i:=by
 unfold Vb;rw[q81 (by rw[AD];unfold zeros;rw[BK];omega)];split
 ·rfl
 ·by_cases h:i<e.length
  ·rw[q9d h]
  ·rw[q72 (by omega),q6a (l:=e) (by omega)];exact qek _ _
theorem qit {e:LU}{off:Nat}{x:LU}{c:Nat}(h:128*c+128<=off\/off+x.length<=128*c):Jb (Vb e off x) c=Jb e c:=qun λj f=>by
 rw[qb4,AB (by omega)]
theorem qn4 {e R x:LU}{off fr at_ i M:Nat}(y:R.length=M)(f:∀i,i<M->Xq R i=Xq e (128*fr+i))(A:off=128*fr+at_)(hi:128*i+128<=M)(B:at_+x.length<=M):Za (((splice R at_ x).drop (128*i)).take 128)=Jb (Vb e off x) (fr+i):=by
 refine quo (λj u=>?_) (by rw[AR];omega);rw[q2k,AA u,q2l,q81 (by omega),qb4];by_cases h:at_<=128*i+j/\128*i+j<at_+x.length
 ·rw[AA h,AA (by omega)];congr 1
  omega
 ·rw[AB h,AB (by omega),f _ (by omega)];congr 1
  omega
def Zq (off:Int)(q:Nat):Int:=if off<0 then 1 else if off > 8192\/off+q > 8192 then 17 else 0
def Wx (e:LU)(off:Int)(x:LU):LU:=if x=[] then e else Vb e off.toNat x
def Aq (c:Int)(E:Ending->WD->Int->Prop)(G:Ending->WD->Prop)(e:Ending)(w':WD):Prop:=(c≠0/\E e w' c)\/(c=0/\G e w')
theorem Aq.bad {c:Int}{E:Ending->WD->Int->Prop}{G:Ending->WD->Prop}{e:Ending}{w':WD}(h:c≠0)(hE:E e w' c):Aq c E G e w':=.inl ⟨h,hE⟩
theorem Aq.good {E:Ending->WD->Int->Prop}{G:Ending->WD->Prop}{e:Ending}{w':WD}(h:G e w'):Aq 0 E G e w':=.inr ⟨rfl,h⟩
def Rf (b:Nat)(w:WD)(d p:Nat)(U Q V:NP)(D:DM)(P:Pl)(its:List Qb)(X:LI)(f:Int)(y:LU)(lim:Nat)(m:Nat)(g:Int)(u:Int->Value)(e:Ending)(w':WD):Prop:=
 ∃r P' its',e=.returned (u r)/\Ft b w' d p U Q V D P' r its' X m g/\Yv D P P' its its' X (λk=>∃c:Int,k=⟨f,3,c⟩) w w' U V/\J5 P' D its' f y/\its'.length<=its.length+lim
def q82 (b:Nat)(w:WD)(d p:Nat)(U Q V:NP)(D:DM)(P:Pl)(its:List Qb)(X:LI)(f:Int)(u:LU)(off:Int)(x:LU)(m:Nat)(g:Int)(e:Ending)(w':WD):Prop:=
 Aq (Zq off x.length) (λe w' c=>e=.returned (.tuple #[.int .i64 0,.int .i64 0,.int .i64 c])/\Below w.1.size w w')
  (Rf b w d p U Q V D P its X f (Wx u off x) (x.length / 128+2) m g (λr=>.tuple #[.int .i64 r,.int .i64 ((Wx u off x).length:Int),.int .i64 0])) e w'
section
variable {b:Nat}{w w':WD}{d p:Nat}{U Q V:NP}{D:DM}{P P':Pl}{root r:Int}{its its':List Qb}{X:LI}{m:Nat}{g:Int}
theorem quq {f:Int}{u x R:LU}{off fr at_ cnt M:Nat}(F:J5 P D its f u)(T:Yv D P P' its its' X (λq=>∃i,i<cnt/\q=⟨f,3,((fr+i:Nat):Int)⟩) w w' U V)
  (B:∀i,i<cnt->P6 P' D (valOf its' ⟨f,3,((fr+i:Nat):Int)⟩) (Za (((splice R at_ x).drop (128*i)).take 128)))
  (E:R.length=M) (H:∀i,i<M->Xq R i=Xq u (128*fr+i)) (G:off=128*fr+at_) (K:M=128*cnt) (J:at_+x.length<=M) (A:off+x.length<=8192):J5 P' D its' f (Vb u off x):=by
 refine⟨by rw[q73];have:=F.few;omega,λc I=>?_⟩;by_cases y:fr<=c/\c<fr+cnt
 ·obtain⟨i,rfl⟩:∃i,c=fr+i:=⟨c-fr,by omega⟩;have:=B i (by omega);rw[qn4 E H G (by omega) J] at this;exact this
 ·obtain⟨h1,h2⟩:=T.same ⟨f,3,(c:Int)⟩ (λ⟨i,hi,e⟩=>y (by injection e with _ _ e;omega));rw[h1,qit (by omega)];exact h2 rfl _ (F.at_ c I)
theorem Ft.write {ino:Int}{bs x:LU}{a:Nat}(h:Ft b w d p U Q V D P root its X m g)(F:J5 P D its ino bs)(hb:1<b)(hi:0<=ino/\ino<=2147483647)(off:Int)(ho:i64 off)(B:OA)(q c:Nat)(hs:Sl w B q c x)(hq:q<=4611686018427387904)(_hB:∀g,q01 B=some g->¬U g)(hR:Y8 P a)(ha:2*(its.length+(q / 128+2))+X.length<=a)(hfew:a<1900) :
  Calls prog 8 #[.pointer (some ⟨p,0,none⟩),.int .i64 root,.int .i64 ino,.int .i64 (bs.length:Int),.int .i64 off,.slice B q c] w (q82 b w d p U Q V D P its X ino bs off x m g):=by
 unfold q82;rw[hs.len];obtain⟨d8,d9⟩:=ho;have O:=hs.len;have e0:=hs.cap;have b9:=hs.max;unfold maxLen at b9;have b6:=F.few;obtain⟨sz,a0⟩:∃sz,bs.length=sz:=⟨_,rfl⟩;rw[a0] at b6 ⊢;have a6:=HI a0;clear a0;by_cases h1:off<0
 ·have T:Zq off q=1:=AA h1;rw[T];have d1:decide (off<0)=true:=AL h1;go_enter func8,ntmps8
  go_wp2_with fail
  go_ret3;exact .bad (by omega) ⟨rfl,AI _ _⟩
 ·have d1:decide (off<0)=false:=AH h1;obtain⟨o,rfl⟩:∃o:Nat,off=(o:Int):=⟨off.toNat,by omega⟩;by_cases h2:(o:Int) > 8192
  ·have T:Zq (o:Int) q=17:=by unfold Zq;rw[AB h1,AA (.inl h2)]
   rw[T];have d2:decide ((o:Int) > 8192)=true:=AL h2;go_enter func8,ntmps8
   go_wp2_with fail
   go_ret3;exact .bad (by omega) ⟨rfl,AI _ _⟩
  ·have d2:decide ((o:Int) > 8192)=false:=AH h2;have w1:IntKind.i64.wrap ((o:Int)+(q:Int))=((o+q:Nat):Int):=by rw[show (o:Int)+(q:Int)=((o+q:Nat):Int) by omega];exact IntWalk.i64_in _ (by omega)
   obtain⟨oq,u⟩:∃oq,o+q=oq:=⟨_,rfl⟩;rw[u] at w1;obtain⟨I,c9⟩:∃I:Nat,max (sz:Int) (oq:Int)=(I:Int):=⟨max sz oq,by omega⟩;have d3:decide ((I:Int) > 8192)=decide (8192<I):=by
    by_cases h:8192<I
    ·rw[AL h,AL (show (I:Int) > 8192 by omega)]
    ·rw[AH h,AH (show ¬(I:Int) > 8192 by omega)]
   by_cases h3:8192<I
   ·have T:Zq (o:Int) q=17:=by unfold Zq;rw[AB h1,AA (.inr (by omega))]
    rw[T];have b4:(I:Int) > 8192:=by omega
    clear d3;go_enter func8,ntmps8
    go_wp2_with fail
    go_ret3;exact .bad (by omega) ⟨rfl,AI _ _⟩
   ·have T:Zq (o:Int) q=0:=by unfold Zq;rw[AB h1,AB (by omega)]
    rw[T];have b4:¬(I:Int) > 8192:=by omega
    clear d3;by_cases h0:q=0
    ·subst h0;have hx:x=[]:=List.length_eq_zero_iff.1 O;have J:Wx bs (o:Int) x=bs:=AA hx;rw[J,a6.out];go_enter func8,ntmps8
     go_wp2_with fail
     go_ret3;exact .good ⟨root,P,its,rfl,h,Yv.refl D P its X _ U V (AI _ _),F,by omega⟩
    ·have q0:((q:Int)==0)=false:=beq_eq_false_iff_ne.2 (by omega);have q1:decide ((q:Int)=0)=false:=AH (by omega);have hx:¬x=[]:=λe=>h0 (by rw[<-O,e];rfl)
     have J:Wx bs (o:Int) x=Vb bs o x:=AB hx;have a9:(Vb bs o x).length=I:=by rw[q73,a6.out,O];omega
     rw[J,a9];have A:=HI (qis ino hi w);have hA:=HI (h.around F (by omega) o q (by omega) (by omega));obtain⟨Z,y⟩:∃Z,o / 128=Z:=⟨_,rfl⟩;have v1:(o:Int).tdiv 128=(Z:Int):=by rw[Int.tdiv_eq_ediv_of_nonneg (by omega)];omega
     have b8:Z<=64:=by omega
     have a8:=λk hk=>(h.ed.low k hk).2
     have a5:=HI y;have Y:=HI u;have d4:=HI c9;clear J a9 hx y u T d1 d2;go_enter func8,ntmps8
     go_wp2_with fail
     refine A.out.mono ?_;rintro e e1 ⟨rfl,rfl⟩;clear A;go_wp2_with fail
     refine hA.out.mono ?_;rintro e w2 ⟨gb,M,at_,R,rfl,A,E,own,⟨hl,K⟩,b2⟩;clear hA;have d6:=own.whole.1;have y:=a5.out;have u:=Y.out;rw[y] at A E K;obtain⟨cnt,f⟩:∃cnt,(o+q-1) / 128-Z+1=cnt:=⟨_,rfl⟩;rw[f] at A;subst A;have a7:cnt<=64:=by omega
     have d5:cnt<=q / 128+2:=by omega
     have H:at_+q<=128*cnt:=by omega
     have G:o=128*Z+at_:=by omega
     have a1:(0:Int)<=(at_:Int):=by omega
     obtain⟨M,A⟩:∃M,128*cnt=M:=⟨_,rfl⟩;rw[A] at K H hl own;try rw[A]
     have a2:(at_:Int)<=(M:Int):=by omega
     have a3:¬M=at_:=by omega
     have a4:at_<=M:=by omega
     have b0:=hs.below b2;have Hs:=HI (And.intro A (And.intro E (And.intro f G)));have b1:=HI K;have HF:=HI F;have Hh:=HI h;clear A E f G K y u F h hs;go_wp2_with (first
      |((with_reducible show wpList _ _ _ _ _ _);refine q4w Bv rfl (.tmp 59) (.tmp 60) rfl w.1.size gb M R own at_ (M-at_) (M-at_) rfl B q c x rfl b0 (by omega) (by omega) ?_;intro w3 W b3)
      |fail)
     have B3:=b2.trans b3;have h3:=Hh.out.below B3;obtain⟨A,E,f,G⟩:=Hs.out;subst A;have y:=a5.out;have u:=Y.out;have hL:=HI (h3.lay hb ino Z hi (by omega) (some ⟨gb,0,none⟩) (128*cnt) W.sl a7 (λk hk hu=>by have:=a8 k hu;have e:gb=k:=OI hk;omega) hR (a:=a) (by omega) hfew);have Hl:=HI hl;have d0:=O;have b7:=H;clear W E f G y u own b0 a2 a3 a4 hl H;go_wp2_with fail
     refine hL.out.mono ?_;rintro e w4 ⟨r,P',its',rfl,F4,T4,b5,d7⟩;clear hL;go_wp2_with fail
     go_ret3;refine .good ⟨r,P',its',rfl,F4,(T4.wider λk ⟨i,_,e⟩=>⟨_,e⟩).ahead B3,?_,by omega⟩;obtain⟨-,E,f,G⟩:=Hs.out;have u:=Y.out;exact quq HF.out T4 b5 Hl.out b1.out G rfl (by omega) (by omega)
end
def Nw (e:LU)(off n:Int):LU:=if off<0\/n<0 then [] else (e.drop off.toNat).take n.toNat
def Nv (off n:Int):Int:=if off<0\/n<0 then 1 else 0
theorem qur {R e:LU}{at_ off k:Nat}(f:at_+k<=R.length)(u:off+k<=e.length)(h:∀i,i<k->Xq R (at_+i)=Xq e (off+i)):(R.drop at_).take k=(e.drop off).take k:=by
 refine qqu (by rw[AR,AR,AS,AS];omega) λi hi=>?_
 rw[AR,AS] at hi;rw[q2k,q2k,AA (by omega),AA (by omega),q2l,q2l];exact h i (by omega)
section
variable {b:Nat}{w:WD}{d p:Nat}{U Q V:NP}{D:DM}{P:Pl}{root:Int}{its:List Qb}{X:LI}{m:Nat}{g:Int}
theorem Ft.read {ino:Int}{bs:LU}(h:Ft b w d p U Q V D P root its X m g)(F:J5 P D its ino bs)(hlen:its.length<=1000)(off n:Int)(ho:i64 off)(hn:i64 n) :
  Calls prog 11 #[.pointer (some ⟨p,0,none⟩),.int .i64 root,.int .i64 ino,.int .i64 (bs.length:Int),.int .i64 off,.int .i64 n] w λe w'=>∃A k c,e=.returned (.tuple #[.slice A k c,.int .i64 (Nv off n)])/\Sl w' A k c (Nw bs off n)/\Below w.1.size w w'/\∀E,q01 A=some E->w.1.size<=E:=by
 have J:=F.few;obtain⟨a7,a8⟩:=ho;obtain⟨a4,a5⟩:=hn;obtain⟨f,G⟩:∃f,bs.length=f:=⟨_,rfl⟩;rw[G] at J ⊢;have y:=HI G;clear G;have hF:∀(_:off<0\/n<0),Nv off n=1/\Nw bs off n=[]:=λh=>⟨AA h,AA h⟩
 have W:∀(_:¬(off<0\/n<0)),Nv off n=0/\Nw bs off n=(bs.drop off.toNat).take n.toNat:=λh=>⟨AB h,AB h⟩
 by_cases h1:off<0
 ·obtain⟨c1,c2⟩:=hF (.inl h1);rw[c1,c2];clear hF W c1 c2;go_enter func11,ntmps11
  go_wp2_with fail
  go_ret2;exact⟨_,_,_,rfl,Ah _,AI _ _,λ_ h=>by cases h⟩
 ·by_cases h2:n<0
  ·obtain⟨c1,c2⟩:=hF (.inr h2);rw[c1,c2];clear hF W c1 c2;go_enter func11,ntmps11
   go_wp2_with fail
   go_ret2;exact⟨_,_,_,rfl,Ah _,AI _ _,λ_ h=>by cases h⟩
  ·obtain⟨c1,c2⟩:=W (by omega);rw[c1,c2];clear hF W c1 c2;have a3:min (f:Int) 8192=(f:Int):=by omega
   obtain⟨o,rfl⟩:∃o:Nat,off=(o:Int):=⟨off.toNat,by omega⟩;rw[AJ];have o0:decide ((o:Int)<0)=false:=AH (by omega);have a9:decide (n<0)=false:=AH (by omega);by_cases T:n=0
   ·subst T;rw[show (0:Int).toNat=0 from rfl,List.take_zero];go_enter func11,ntmps11
    go_wp2_with fail
    go_ret2;exact⟨_,_,_,rfl,Ah _,AI _ _,λ_ h=>by cases h⟩
   ·have b0:(n==0)=false:=beq_eq_false_iff_ne.2 T;have b1:decide (n=0)=false:=AH T;by_cases h4:f<=o
    ·rw[List.drop_eq_nil_of_le (by rw[y.out];exact h4),List.take_nil];have Z:(f:Int)<=(o:Int):=by omega
     go_enter func11,ntmps11
     go_wp2_with fail
     go_ret2;exact⟨_,_,_,rfl,Ah _,AI _ _,λ_ h=>by cases h⟩
    ·have Z:¬(f:Int)<=(o:Int):=by omega
     obtain⟨k,K⟩:∃k:Nat,min n ((f-o:Nat):Int)=(k:Int):=⟨(min n ((f-o:Nat):Int)).toNat,by omega⟩;have w1:IntKind.i64.wrap ((f:Int)-(o:Int))=((f-o:Nat):Int):=by rw[show (f:Int)-(o:Int)=((f-o:Nat):Int) by omega];exact IntWalk.i64_in _ (by omega)
     obtain⟨so,O⟩:∃so,f-o=so:=⟨_,rfl⟩;rw[O] at w1 K;have a2:1<=k:=by omega
     have u:o+k<=f:=by omega
     have e1:(bs.drop o).take n.toNat=(bs.drop o).take k:=by
      by_cases a6:n<=(so:Int)
      ·rw[show n.toNat=k by omega]
      ·rw[AN (by rw[AS,y.out];omega),AN (by rw[AS,y.out];omega)]
     rw[e1];have hA:=HI (h.around F hlen o k a2 (by omega));have B:∀(M at_:Nat) (R:LU),M=128*((o+k-1) / 128-o / 128+1)->at_=o-128*(o / 128)->R.length=M->(∀i,i<M->Xq R i=Xq bs (128*(o / 128)+i))->at_+k<=M/\(R.drop at_).take k=(bs.drop o).take k:=λM at_ R hM ha hl Y=>by
      have h5:at_+k<=M:=by omega
      refine⟨h5,qur (by omega) (by rw[y.out];exact u) λi hi=>?_⟩;rw[Y _ (by omega)];congr 1
      omega
     have Hk:=HI u;clear O e1 h h4 T u;go_enter func11,ntmps11
     go_wp2_with fail
     refine hA.out.mono ?_;rintro e w2 ⟨E,M,at_,R,rfl,hM,ha,own,⟨hl,Y⟩,b2⟩;have a1:=HI own.whole.1;obtain⟨f1,f2⟩:=B M at_ R hM ha hl Y;have u:=Hk.out;have a0:at_<=o:=by omega
     have v1:IntKind.i64.wrap ((at_:Int)+(k:Int))=((at_+k:Nat):Int):=by rw[show (at_:Int)+(k:Int)=((at_+k:Nat):Int) by omega];exact IntWalk.i64_in _ (by omega)
     obtain⟨H,I⟩:∃H,at_+k=H:=⟨_,rfl⟩;rw[I] at v1 f1;have v2:(0:Int)<=(at_:Int):=by omega
     have v3:(at_:Int)<=(H:Int):=by omega
     have v4:(H:Int)<=(M:Int):=by omega
     have v5:¬M=at_:=by omega
     have v6:H-at_=k:=by omega
     have v7:(0:Int)<=(H:Int):=by omega
     have hS:Sl w2 (some ⟨E,at_,none⟩) k (M-at_) ((bs.drop o).take k):=by
      rw[<-f2];have:=(own.sl.drop (k:=at_) (by omega)).take (k:=k) (by omega);rw[AB v5] at this;have e:Option.map (λx:Addr=>x.add at_) (some ⟨E,0,none⟩)=some ⟨E,at_,none⟩:=by simp[Addr.add];omega
      rw[e] at this;exact this
     have HS:=HI hS;clear hA hM ha hl Y own I hS f1 f2 B u a0;go_wp2_with fail
     go_ret2;exact⟨_,_,_,rfl,HS.out,b2,λk K=>by have K:E=k:=OI K;rw[<-K];exact a1.out⟩
end
theorem qd3 (n:Nat)(hn:Qa n)(w:WD)(W:Tab w) :
  Calls prog 6 #[.int .i64 n] w λe w'=>∃p d U D,e=.returned (.pointer (some ⟨p,0,none⟩))/\Ed w.1.size w' d p U D (Pl.fresh n) [] 100 2/\Below w.1.size w w'/\(∀k,U k->w.1.size<=k):=by
 have hG:=W.1;have h1:32<=n:=hn.1;have h2:n<=2048:=hn.2;go_enter func6,ntmps6
 go_wp2_with fail
 refine (qw8 n hn w).mono ?_;rintro e w1 ⟨d,rfl,R,G⟩;have Y:=W.below G hG;go_wp2_with fail
 refine (qi6 R ⟨rfl,rfl⟩ (by omega) Y (qjr n) (by omega)).mono ?_;rintro e I ⟨p,q,rfl,u⟩;have F:(DM.mk0 n).n=n:=rfl;rw[F] at u;have y:=(q6r (Xt n) (qjr n)).mono (m':=100) (by have:=qyg (n:=n) h2;omega);have H:=qmw h1 h2;obtain⟨O,B⟩:∃D,(DM.mk0 n).Qx (Xt n)=D:=⟨_,rfl⟩;rw[B] at u y H;obtain⟨P,K⟩:∃P,Pl.fresh n=P:=⟨_,rfl⟩;have hg:P.S.gen=1:=by rw[<-K];rfl
 rw[K] at u H;have A:=qyf (b:=w.1.size) u (λk f=>f) G.size;have t2:=Y.turned u.turn (by omega);have z1:=G.size;have J:Below w.1.size w I:=G.trans (u.turn.below (λk f=>f) z1);obtain⟨S0,S,A⟩:=A;obtain⟨T,M⟩:∃T:NP,(λk=>w.1.size<=k/\k<I.1.size)=T:=⟨_,rfl⟩;have E:∀k,T k->w.1.size<=k/\k<I.1.size:=λk f=>by rw[<-M] at f;exact f
 rw[M] at A;have Z:Ed w.1.size I d p T O P [] 100 2:=⟨⟨S0,S,T,A,A.sub,A.Du⟩,E,t2,⟨_,_,H⟩,y,by omega⟩;clear u R M B H y F;go_wp2_with fail
 go_ret;exact⟨p,d,T,O,rfl,K▸Z,J,λk f=>(E k f).1⟩
theorem qn5 (x:Int)(m:Nat)(u:-9223372036854775808<=x/\x<=9223372036854775807)(f:0<m)(B:m<=1000000)(w:WD) :
  Calls prog 7 #[.int .i64 x,.int .i64 (m:Int)] w λe w'=>e=.returned (.int .i64 (md x m:Int))/\w=w':=by
 obtain⟨y,A⟩:=u;go_enter func7,ntmps7
 have hn:¬((m:Int)=0):=by omega
 by_cases h0:x<0
 ·have hm:=qym m h0 (by omega);go_wp2;go_ret;exact⟨q9i (by first|exact hm|simp),rfl⟩
 ·have hm:=qyl m (show 0<=x by omega) (by omega);go_wp2;go_ret;exact⟨q9i (by first|exact hm|simp),rfl⟩
section
variable {b:Nat}{w w':WD}{d p:Nat}{U Q V:NP}{D:DM}{P:Pl}{root:Int}{its:List Qb}{X:LI}{m:Nat}{g:Int}
theorem qvo {n:Nat}(E:Ed b w d p U D (Pl.fresh n) [] m g):Ft b w d p U (λ_=>False) U D (Pl.fresh n) 0 [] [] m g:=
 ⟨E,E.Qc2,.inl ⟨rfl,rfl⟩,List.Pairwise.nil,λx f=>(by cases f),λa e=>(by cases e)⟩
theorem ql3 {n a:Nat}(hn:2+2*Qj n+a+20<=n):Y8 (Pl.fresh n) a:=by
 unfold Y8;rw[show (Pl.fresh n).C.kept=0 from qgq n,qeh n,show (Pl.fresh n).C.first=2+2*Qj n by unfold Ct.first;rw[qeh n]];omega
theorem qeo (P:Pl)(D:DM)(e:Int):J5 P D [] e []:=qqw λx f=>(by cases f)
end
theorem Qcs:Wx [] 3 [97,98]=[0,0,0,97,98]:=by decide
theorem Qct:Nw [0,0,0,97,98] 0 9=[0,0,0,97,98]:=by decide
theorem Qcu:Nv 0 9=0:=by decide
theorem Qcv:(Wx [] 8191 [97]).length=8192:=by
 unfold Wx;rw[AB (by decide),q73];rfl
theorem q82.yes {b:Nat}{w w':WD}{d p:Nat}{U Q V:NP}{D:DM}{P:Pl}{its:List Qb}{X:LI}{m:Nat}{g:Int}{ino:Int}{bs x:LU}{off:Int}{e:Ending}(h:q82 b w d p U Q V D P its X ino bs off x m g e w')(hc:Zq off x.length=0):Rf b w d p U Q V D P its X ino (Wx bs off x) (x.length / 128+2) m g (λr=>.tuple #[.int .i64 r,.int .i64 ((Wx bs off x).length:Int),.int .i64 0]) e w':=h.elim (λh=>absurd hc h.1) (·.2)
theorem q82.no {b:Nat}{w w':WD}{d p:Nat}{U Q V:NP}{D:DM}{P:Pl}{its:List Qb}{X:LI}{m:Nat}{g:Int}{ino:Int}{bs x:LU}{off:Int}{e:Ending}(h:q82 b w d p U Q V D P its X ino bs off x m g e w')(hc:Zq off x.length≠0):e=.returned (.tuple #[.int .i64 0,.int .i64 0,.int .i64 (Zq off x.length)])/\Below w.1.size w w':=h.elim (·.2) (λh=>absurd h.1 hc)
theorem qiu (w:WD)(ht:Tab w):Calls prog 5 #[] w λe w'=>e=.returned (.bool true)/\Below w.1.size w w':=by
 have hG:=ht.1;have hM:=HI (qd3 64 ⟨by omega,by omega⟩ w ht);have hR:Y8 (Pl.fresh 64) 40:=ql3 (by decide);obtain⟨P,hP⟩:∃P,Pl.fresh 64=P:=⟨_,rfl⟩;have kc:=λ(w:WD) (C:Array Value) (n c:Nat)=>Lib.run_convert_bytes_const (P:=prog) w 22 5 C n c underlying22 underlying5
 go_enter func5,ntmps5
 go_wp2_with fail
 refine hM.out.mono ?_;rintro e B ⟨p,d,U,D,rfl,E2,B2,hU⟩;clear hM;have S2:=qvo E2;rw[hP] at S2 hR;have b3:Below B.1.size B (B.alloc (.cells #[.int .u8 97,.int .u8 98] 5 (2,3))):=Ql;have s3:Sl (B.alloc (.cells #[.int .u8 97,.int .u8 98] 5 (2,3))) (some ⟨B.1.size,0,none⟩) 2 2 [97,98]:=qhz B 5 (2,3) [97,98] #[.int .u8 97,.int .u8 98] rfl (by simp);have R:∀k,U k->k<B.1.size:=λk hk=>(E2.low k hk).2
 have T:=HI ((S2.below b3).write (qeo P D 5) hG ⟨by omega,by omega⟩ 3 ⟨by omega,by omega⟩ _ 2 2 s3 (by omega) (λg A E=>by have:=R g E;have A:B.1.size=g:=OI A;omega) hR (by simp) (by omega));clear E2;go_wp2_with fail
 refine T.out.mono ?_;rintro e w4 Z;obtain⟨r4,P4,f,rfl,S4,T4,F4,a2⟩:=Z.yes (by decide);rw[Qcs] at F4 ⊢;have a2:f.length<=2:=a2;have B4:Below w.1.size w w4:=(B2.trans (b3.mono B2.size)).trans (T4.turn.below hU (AZ B2.size b3.size));have M:∀k,U k->k<w4.1.size:=λk hk=>(S4.ed.low k hk).2
 have O:Y8 P4 40:=hR.to T4;have F6:J5 P4 D f 6 []:=T4.file (qeo P D 6) λc ⟨c',e⟩=>by injection e with e;omega
 have y:=S4.read F4 (by omega) 0 9 ⟨by omega,by omega⟩ ⟨by omega,by omega⟩;rw[Qct,Qcu,show ((([0,0,0,97,98]:LU).length:Nat):Int)=5 from rfl] at y;replace y:=HI y;have u:=HI B4;clear T Z b3 s3 S2 T4 F4 hR B2 R B4;go_wp2_with fail
 refine y.out.mono ?_;rintro e F ⟨A5,n5,c5,rfl,s5,I,h5⟩;have H:Below F.1.size F (F.alloc (.cells #[.int .u8 97] 5 (1,2))):=Ql;have s6:Sl (F.alloc (.cells #[.int .u8 97] 5 (1,2))) (some ⟨F.1.size,0,none⟩) 1 1 [97]:=qhz F 5 (1,2) [97] #[.int .u8 97] rfl (by simp);have S5:=S4.below I;have W:=HI ((S5.below H).write F6 hG ⟨by omega,by omega⟩ 8192 ⟨by omega,by omega⟩ _ 1 1 s6 (by omega) (λg A E=>by have:=M g E;have:=I.size;have A:F.1.size=g:=OI A;omega) O (by show 2*(f.length+2)+0<=40;omega) (by omega));clear y S4;go_wp2_with fail
 refine W.out.mono ?_;rintro e G a0;obtain⟨rfl,J⟩:=a0.no (by decide);have S7:=(S5.below H).below J;have s7:=(s5.below H).below J;have K:Below G.1.size G (G.alloc (.cells #[.int .u8 97] 5 (1,2))):=Ql;have s8:Sl (G.alloc (.cells #[.int .u8 97] 5 (1,2))) (some ⟨G.1.size,0,none⟩) 1 1 [97]:=qhz G 5 (1,2) [97] #[.int .u8 97] rfl (by simp);have Y:=HI ((S7.below K).write F6 hG ⟨by omega,by omega⟩ 8191 ⟨by omega,by omega⟩ _ 1 1 s8 (by omega) (λg A E=>by have:=(S7.ed.low g E).2;have A:G.1.size=g:=OI A;omega) O (by show 2*(f.length+2)+0<=40;omega) (by omega));have a3:=s7.below K;clear W a0 s5 s6 s7;go_wp2_with fail
 refine Y.out.mono ?_;rintro e w9 a1;obtain⟨r9,P9,a4,rfl,S9,T9,F9,a5⟩:=a1.yes (by decide);rw[Qcv];have z5:=I.size;have z6:=H.size;have z7:=J.size;have z8:=K.size;have B8:=((((u.out.trans (I.mono u.out.size)).trans (H.mono (AZ u.out.size z5))).trans (J.mono (AZ u.out.size (AZ z5 z6)))).trans (K.mono (AZ u.out.size (AZ z5 (AZ z6 z7)))));have B9:=B8.trans (T9.turn.below hU B8.size);have s9:=a3.turned T9.D9 (λg A E=>by have:=M g E;have:=h5 g A;omega);have hc:=qwf s9;clear Y a1 I H J K z5 z6 z7 z8 u B8 S5 S7 kc;go_wp2_with fail
 go_ret;exact⟨rfl,B9⟩
def Dp (e:Int):Int:=if e<0 then 1 else if e > 8192 then 17 else 0
def Qa6 (root c:Int)(e:Ending):Prop:=∃r:Int,e=.returned (.tuple #[.int .i64 r,.int .i64 c])/\(c=0->r=root)
theorem qgx (p:OA)(root y:Int)(size:Nat)(f:Int)(_B:size<=8192)(h:f<0\/(size:Int)<=f)(w:WD) :
  Calls prog 10 #[.pointer p,.int .i64 root,.int .i64 y,.int .i64 (size:Int),.int .i64 f] w λe w'=>Qa6 root (Dp f) e/\w=w':=by
 by_cases h1:f<0
 ·have u:Dp f=1:=AA h1;rw[u];go_enter func10,ntmps10
  go_wp2_with fail
  go_ret2;exact⟨⟨0,rfl,λh=>by omega⟩,rfl⟩
 ·by_cases h2:f > 8192
  ·have u:Dp f=17:=by unfold Dp;rw[AB h1,AA h2]
   rw[u];go_enter func10,ntmps10
   go_wp2_with fail
   go_ret2;exact⟨⟨0,rfl,λh=>by omega⟩,rfl⟩
  ·have u:Dp f=0:=by unfold Dp;rw[AB h1,AB h2]
   rw[u];have A:(size:Int)<=f:=by omega
   go_enter func10,ntmps10
   go_wp2_with fail
   go_ret2;exact⟨⟨root,rfl,λ_=>rfl⟩,rfl⟩
theorem qgy (C:Ct):∀j,C.Ju (C.first+j)<=j
 |0=>by rw[Nat.add_zero,C.Le (AE _)];omega
 |j+1=>by
  have:=qgy C j;rw[<-Nat.add_assoc,C.Kt];split<;>omega
theorem qr9 {C:Ct}(h:C.first<=C.n):C.free<=C.n-C.first:=by
 have:=qgy C (C.n-C.first);rw[show C.first+(C.n-C.first)=C.n by omega] at this;exact this
section
variable {b:Nat}{w w':WD}{d p:Nat}{U Q V:NP}{D:DM}{P P':Pl}{root r:Int}{its its':List Qb}{X:LI}{m:Nat}{g:Int}
theorem qus {f:LU}{N:Kd->Prop}{e:Int}(F:J5 P' D its' e f)(h0:∀i,Xq f i=0)(T:Yv D P P' [] its' X N w w' U V)(H:Qh its')(G:∀x∈its',Zt x)(B:∀k,N k->∃c:Int,k=⟨e,3,c⟩):its'=[]:=by
 refine List.eq_nil_iff_forall_not_mem.2 λx A=>?_
 have u:=q6m H x A;by_cases y:N x.k
 ·obtain⟨c,E⟩:=B _ y;have hm:=(G x A).1;rw[E] at hm u;have I:0<=c/\c<=2147483647:=by
   have:=((Kd.Nl _).1 hm).2.2;dsimp only at this;omega
  obtain⟨n,rfl⟩:∃n:Nat,c=(n:Int):=⟨c.toNat,by omega⟩;have h1:=F.at_ n (by omega);rw[u,show Jb f n=[] from qqv λi=>by rw[q2k,q2l,h0];split<;>rfl] at h1;rcases h1 with⟨_,h⟩|⟨h,_⟩|⟨h,_⟩
  ·cases h
  ·simp at h
  ·simp at h
 ·have:=(T.same _ y).1;rw[u] at this
  cases this
theorem Ft.noughts {x:LU}{n:Nat}(h:Ft b w d p U Q V D P 0 [] [] m g)(E:P.C.kept=0)(hn:P.C.first<=P.C.n)(hfr:P.C.free=n)(hb:1<b)(off:Int)(ho:i64 off)(B:OA)(q c:Nat)(hs:Sl w B q c x)(hx:∀i,Xq x i=0)(hq:q<=1000)(hB:∀g,q01 B=some g->¬U g)(hR:Y8 P 40){z:Nat}(hV:∀k,V k->z<=k)(hz:z<=w.1.size) :
  Calls prog 8 #[.pointer (some ⟨p,0,none⟩),.int .i64 0,.int .i64 1,.int .i64 0,.int .i64 off,.slice B q c] w λe w'=>
   (∃r G:Int,e=.returned (.tuple #[.int .i64 r,.int .i64 G,.int .i64 (Zq off q)])/\(Zq off q≠0->G=0)/\(Zq off q=0->0<q->G=off+q))/\(∃P' H,P'.C.free=n/\Ed b w' d p U D P' H m g)/\Below z w w':=by
 have f:=hs.len;have R:=h.write (qeo P D 1) hb ⟨by omega,by omega⟩ off ho B q c hs (by omega) hB hR (by show 2*(0+(q / 128+2))+0<=40;omega) (by omega);refine R.mono λe w' H=>?_
 rcases H with⟨u,rfl,A⟩|⟨u,r,P',its',rfl,S,T,F,_⟩
 ·rw[f] at u ⊢;exact⟨⟨0,0,rfl,λ_=>rfl,λh=>absurd h u⟩,⟨P,_,hfr,h.ed.below A⟩,A.mono hz⟩
 ·rw[f] at u;have K:0<=off:=by
   unfold Zq at u;split at u
   ·omega
   ·omega
  rw[u];have W:its'=[]:=qus F (λi=>by
   unfold Wx;split
   ·exact qel i
   ·rw[qb4];split
    ·exact hx _
    ·exact qel i) T S.Qh S.fine (λk E=>E)
  subst W;have I:=S.room;have J:=h.room;have Y:=qr9 hn;have y:P'.C.first=P.C.first:=by unfold Ct.first;rw[T.n]
  have M:=qr9 (C:=P'.C) (by rw[y,T.n];exact hn);have O:=qgp T.like T.n;rw[y,T.n,O,E] at I;rw[E] at J;rw[y,T.n] at M;simp only[List.length_nil] at I J;refine⟨⟨r,_,rfl,λh=>absurd rfl h,λ_ h0=>?_⟩,⟨P',_,by omega,S.ed⟩,T.turn.below hV hz⟩;unfold Wx;rw[AB (λe=>by rw[e] at f;simp at f;omega),q73,f];simp only[List.length_nil];omega
end
