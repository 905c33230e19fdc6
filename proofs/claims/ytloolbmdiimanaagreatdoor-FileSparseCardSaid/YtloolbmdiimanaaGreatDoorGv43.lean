/- The library's TrimRight of noughts -/
import Derived.Test.YtloolbmdiimanaaGreatDoorGv42
namespace Go.Proofs.YtloolbmdiimanaaGreatDoor
open Go Go.RowKit Go.Proofs Tryz
set_option maxHeartbeats 8000000
set_option maxRecDepth 100000
theorem qh3 {w:WD}(A:OA)(n c:Nat)(l:LU)(E:Sl w A n c l) :
  Calls prog 78 #[.slice A n c,.int .u8 0] w λe w'=>e=.returned (.slice A (Qv l).length c)/\w=w':=by
 have hl:=E.len;have O:=E.cap;have I:=E.max;unfold maxLen at I;go_enter func78,ntmps78
 go_wp2_with fail
 go_loopw [0] (λM wr=>∃k:Nat,k<=n/\M=.slice A k c/\Qv (l.take k)=Qv l/\wr=w) (λM _=>match M with|.slice _ k _=>k|_=>0)
 case atStart=>exact⟨n,AE _,rfl,by rw[AN (by omega)],rfl⟩
 case round=>
  obtain⟨k,hk,rfl,f,rfl⟩:=hrel;by_cases h0:k=0
  ·subst h0;have B:(Qv l).length=0:=by rw[<-f];rfl
   have G:=HI B;clear B f;go_wp2_with fail
   go_ret;exact⟨by rw[G.out];rfl,rfl⟩
  ·obtain⟨j,H⟩:∃j,k=j+1:=⟨k-1,by omega⟩;obtain⟨Z,rfl,hb,W⟩:=E.cell (show j<n by omega);have u:l.take k=l.take j++[UInt8.ofNat (Xr l j)]:=by rw[H];exact q9v l j (by omega)
   rw[u] at f;have e0:(0:Int)<(k:Int):=by omega
   have e1:IntKind.i64.wrap ((k:Int)-1)=(j:Int):=by rw[show (k:Int)-1=(j:Int) by omega];exact IntWalk.i64_in _ (by omega)
   have e2:(0:Int)<=(j:Int):=by omega
   have e3:(j:Int)<(k:Int):=by omega
   have e4:(j:Int)<=(c:Int):=by omega
   have F:=HI H;have R:=HI u;clear H u;obtain⟨x,K⟩:∃x,Xr l j=x:=⟨_,rfl⟩;rw[K] at W f;have T:=HI K;clear K;by_cases y:x=0
   ·subst y;have J:Qv (l.take j)=Qv l:=by
     rw[<-f];exact (qdb _).symm
    go_wp2_with fail
    exact⟨⟨j,by have:=F.out;omega,rfl,J,trivial⟩,by have:=F.out;show j<k;omega⟩
   ·have f1:((x:Int)==0)=false:=beq_eq_false_iff_ne.2 (by omega);have f2:decide ((x:Int)=0)=false:=AH (by omega);have B:(Qv l).length=k:=by
     have Y:x<=255:=by rw[<-T.out];exact q8h l j
     rw[<-f,qdc _ (λe=>y (by have:=congrArg UInt8.toNat e;rw[UInt8.toNat_ofNat'] at this;have h3:(0:UInt8).toNat=0:=rfl;omega)),AD,AR,List.length_singleton];have:=F.out;omega
    have G:=HI B;clear B f;go_wp2_with fail
    go_ret;exact⟨by rw[G.out];rfl,rfl⟩
theorem qez {w:WD}(A:OA)(n c:Nat)(l:LU)(y:Sl w A n c l) :
  Calls prog 46 #[.slice A n c,.string ⟨#[0]⟩] w λe w'=>e=.returned (.slice A (Qv l).length c)/\w=w':=by
 have G:=y.len;have f:=HI (qh3 A n c l y);have K:((⟨#[0]⟩:ByteArray).toList==(⟨#[]⟩:ByteArray).toList)=false:=by decide +kernel
 go_enter func46,ntmps46
 by_cases h0:n=0
 ·subst h0;have B:(Qv l).length=0:=by rw[BF G];rfl
  have E:=HI B;clear B f;go_wp2_with fail
  go_ret;exact⟨by rw[E.out];rfl,rfl⟩
 ·have I:((n:Int)==0)=false:=beq_eq_false_iff_ne.2 (by omega);have J:decide ((n:Int)=0)=false:=AH (by omega);have F:∀u:WD,(Instr.index 9 (.string ⟨#[0]⟩) (.int .i64 0)).run prog u=.ok (.int .u8 0) u:=λu=>by
   rw[run_index_string u 9 ⟨#[0]⟩ .i64 _ underlying9,dif_pos (by decide)];rfl
  have H:(⟨#[0]⟩:ByteArray).size=1:=rfl;go_wp2_with fail
  refine f.out.mono ?_;rintro e M ⟨rfl,rfl⟩;clear f;go_wp2_with fail
  go_ret;exact⟨rfl,rfl⟩
def Yw (P:Pl)(a:Nat):Prop:=P.C.first+P.C.kept+a+20<=P.C.n
section
variable {b:Nat}{w w':WD}{d p:Nat}{U Q V:NP}{D:DM}{P P':Pl}{root r:Int}{its its':List Qb}{X X':LI}{m:Nat}{g:Int}{N:Kd->Prop}
theorem Yw.to {a:Nat}(h:Yw P a)(T:Yb D P P' its its' X N w w' U V):Yw P' a:=by
 unfold Yw at h ⊢;have e:=qr8 T.like T.n;have f:P'.C.first=P.C.first:=by unfold Ct.first;rw[T.n]
 rw[e,f,T.n];exact h
theorem Ft.free (h:Ft b w d p U Q V D P root its X m g){a:Nat}(hR:Yw P a)(ha:2*its.length+X.length<=a+1):18<=P.C.free:=by
 have h1:=h.room;unfold Yw at hR;omega
theorem Ft.Qbj {l:LU}{a:Nat}(h:Ft b w d p U Q V D P root its X m g)(hb:1<b)(ino n:Int)(hi:0<=ino/\ino<=2147483647)(hn:0<=n/\n<=2147483647)(B:OA)(q c:Nat)(hs:Sl w B q c l)(hl:l.length<=128)(hB:∀g,q01 B=some g->¬U g)(hR:Yw P a)(ha:2*its.length+X.length<=a)(hfew:its.length<1000)(hX:X.length<=8000) :
  Calls prog 28 #[.pointer (some ⟨p,0,none⟩),.int .i64 root,.int .i64 ino,.int .i64 n,.slice B q c] w (qiu b w d p U Q V D P its X ⟨ino,3,n⟩ (Qv l) m g):=by
 have A:=HI (qez B q c l hs);have hk:=qh2 l;have a1:=hs.len;have f:Sl w B (Qv l).length c (Qv l):=by
  have:=hs.take (k:=(Qv l).length) (by omega);rwa [<-qn7] at this
 obtain⟨t,ht⟩:∃t,Qv l=t:=⟨_,rfl⟩;rw[ht] at A hk f ⊢;obtain⟨k,u⟩:∃k,t.length=k:=⟨_,rfl⟩;have I:=HI u;rw[u] at A hk f;clear u;by_cases J:k<=24
 ·have E:(k:Int)<=24:=by omega
  have Z:Rw P D t 0 t []:=by
   by_cases h0:t=[]
   ·subst h0;exact .inl ⟨rfl,rfl,rfl,rfl⟩
   ·refine .inr (.inl ⟨?_,by rw[I.out];exact J,rfl,rfl,rfl⟩);exact List.length_pos_iff.2 h0
  have G:=HI (Ft.set (nm:=[]) h hb ino n hi hn B k c f Z hfew (by omega) (by have:=h.free hR (by omega);omega));clear Z;go_enter func28,ntmps28
  go_wp2_with fail
  refine A.out.mono ?_;rintro e w2 ⟨rfl,rfl⟩;clear A;go_wp2_with fail
  refine G.out.mono ?_;rintro e R ⟨r,P',its',rfl,F,T,K,y⟩;clear G;go_wp2_with fail
  go_ret2;exact⟨r,P',its',rfl,F,T,K,y⟩
 ·have E:¬(k:Int)<=24:=by omega
  have hf:=h.free hR (by omega);have hP:=HI (h.bytes hb (by omega) (by rw[I.out];omega) B k c f hB);go_enter func28,ntmps28
  go_wp2_with fail
  refine A.out.mono ?_;rintro e w2 ⟨rfl,rfl⟩;clear A;go_wp2_with fail
  refine hP.out.mono ?_;rintro e R ⟨z,P1,rfl,W,Y,hd,M,O⟩;have H:Ft b R d p U Q V D P1 root its ([(z:Int)]++X) m g:=W;have a0:=W.free (hR.to Y) (by rw[AX];omega);have G:=HI (H.set hb ino n hi hn none 0 0 (G6 R) (l:=[]) (t:=t) (a:=(z:Int)) (.inr (.inr ⟨z,M,O,rfl,rfl,by rw[I.out];omega,hd,rfl⟩)) hfew (by omega) (by omega));clear hP;go_wp2_with fail
  refine G.out.mono ?_;rintro e w4 ⟨r,P',its',rfl,F,T,K,y⟩;clear G;go_wp2_with fail
  go_ret2;exact⟨r,P',its',rfl,F,(Y.trans T λ_ h=>h).wider (λq hq=>hq.resolve_left id),K,y⟩
def Qbt (b:Nat)(w:WD)(d p:Nat)(U Q V:NP)(D:DM)(P:Pl)(its:List Qb)(X:LI)(ino:Int)(first cnt:Nat)(f:Nat->LU)(m:Nat)(g:Int)(e:Ending)(w':WD):Prop:=
 ∃r P' its',e=.returned (.tuple #[.int .i64 r,.int .i64 0])/\Ft b w' d p U Q V D P' r its' X m g/\Yb D P P' its its' X (λq=>∃i,i<cnt/\q=⟨ino,3,((first+i:Nat):Int)⟩) w w' U V/\(∀i,i<cnt->Ij P' D (valOf its' ⟨ino,3,((first+i:Nat):Int)⟩) (f i))/\its'.length<=its.length+cnt
theorem Ft.lay {l:LU}{a cnt:Nat}(h:Ft b w d p U Q V D P root its X m g)(hb:1<b)(ino:Int)(first:Nat)(hi:0<=ino/\ino<=2147483647)(hf:first<=100)(B:OA)(c:Nat)(hs:Sl w B (128*cnt) c l)(hc:cnt<=64)(hB:∀g,q01 B=some g->¬U g)(hR:Yw P a)(ha:2*(its.length+cnt)+X.length<=a)(hfew:a<1900) :
  Calls prog 17 #[.pointer (some ⟨p,0,none⟩),.int .i64 root,.int .i64 ino,.int .i64 (first:Int),.slice B (128*cnt) c] w (Qbt b w d p U Q V D P its X ino first cnt (λi=>Qv ((l.drop (128*i)).take 128)) m g):=by
 have a6:=hs.len;have K:=hs.cap;have a4:=hs.max;unfold maxLen at a4;obtain⟨n,hn⟩:∃n,128*cnt=n:=⟨_,rfl⟩;rw[hn] at hs a6 K ⊢;have Hn:=HI hn;have hq:(n:Int).tdiv 128=(cnt:Int):=by
  rw[Int.tdiv_eq_ediv_of_nonneg (by omega)];omega
 have a9:=λk hk=>(h.ed.low k hk).2
 clear hn;go_enter func17,ntmps17
 go_wp2_with fail
 go_loopw [1,17] (λrv iv wr=>∃(i:Nat) (r:Int) (P':Pl) (its':List Qb),i<=cnt/\rv=.int .i64 r/\iv=.int .i64 (i:Int)/\Ft b wr d p U Q V D P' r its' X m g/\Yb D P P' its its' X (λq=>∃j,j<i/\q=⟨ino,3,((first+j:Nat):Int)⟩) w wr U V/\(∀j,j<i->Ij P' D (valOf its' ⟨ino,3,((first+j:Nat):Int)⟩) (Qv ((l.drop (128*j)).take 128)))/\its'.length<=its.length+i) (λ_ iv _=>cnt-(intOf iv).toNat)
 case atStart=>exact⟨0,root,P,its,AW _,rfl,rfl,h,Yb.refl D P its X _ U V (AI _ _),λj hj=>absurd hj (by omega),by omega⟩
 case round=>
  obtain⟨i,r,P',its',b1,rfl,rfl,F,T,J,a3⟩:=hrel;by_cases b2:i<cnt
  ·have e0:(0:Int)<=(i:Int):=by omega
   have e1:(i:Int)<(cnt:Int):=by omega
   obtain⟨H,u⟩:∃H,first+i=H:=⟨_,rfl⟩
   obtain⟨lo,R⟩:∃lo,128*i=lo:=⟨_,rfl⟩;obtain⟨E,O⟩:∃E,i+1=E:=⟨_,rfl⟩;obtain⟨up,a7⟩:∃up,lo+128=up:=⟨_,rfl⟩;have hn:=Hn.out;have w1:IntKind.i64.wrap ((first:Int)+(i:Int))=(H:Int):=by rw[show (first:Int)+(i:Int)=(H:Int) by omega];exact IntWalk.i64_in _ (by omega)
   have w2:IntKind.i64.wrap ((i:Int)*128)=(lo:Int):=by rw[show (i:Int)*128=(lo:Int) by omega];exact IntWalk.i64_in _ (by omega)
   have w3:IntKind.i64.wrap ((i:Int)+1)=(E:Int):=by rw[show (i:Int)+1=(E:Int) by omega];exact IntWalk.i64_in _ (by omega)
   have w4:IntKind.i64.wrap ((E:Int)*128)=(up:Int):=by rw[show (E:Int)*128=(up:Int) by omega];exact IntWalk.i64_in _ (by omega)
   have l0:(0:Int)<=(lo:Int):=by omega
   have l1:(lo:Int)<=(up:Int):=by omega
   have l2:(0:Int)<=(up:Int):=by omega
   have l3:(up:Int)<=(c:Int):=by omega
   have l4:up-lo=128:=by omega
   obtain⟨G,A⟩:∃G,Option.map (λx=>x.add lo) B=G:=⟨_,rfl⟩;have W:Sl wr G 128 (c-lo) ((l.drop lo).take 128):=by
    rw[<-A,<-(AB (by omega):(if c=lo then B else B.map (·.add lo))=_)];exact ((hs.turned T.Ah hB).drop (k:=lo) (by omega)).take (k:=128) (by omega)
   have I:∀g,q01 G=some g->q01 B=some g:=λg M=>by
    rw[<-A] at M
    cases B with
    |none=>cases M
    |some ad=>rw[<-M];show some ad.block=some (ad.add lo).block;rw[Oa]
   have f:=F.Qbj hb ino (H:Int) hi (by omega) G 128 (c-lo) W (by rw[AR];omega) (λg M=>hB g (I g M)) (hR.to T) (a:=a) (by omega) (by omega) (by omega);replace f:=HI f;have Y:=HI u;have Z:=HI R;have b0:=HI O;clear u R O a7 hn W I;have HF:=HI F;have HT:=HI T;have HC:=HI J;clear F T J;go_wp2_with fail
   refine f.out.mono ?_;rintro e w5 ⟨r5,P5,y,rfl,F5,T5,a0,a8⟩;clear f;have u:=Y.out;subst u;have hT:=(HT.out.trans T5 λ_ h=>h).wider (N':=λq=>∃j,j<i+1/\q=⟨ino,3,((first+j:Nat):Int)⟩) λq hq=>by
    rcases hq with⟨j,hj,rfl⟩|rfl
    ·exact⟨j,by omega,rfl⟩
    ·exact⟨i,by omega,rfl⟩
   have J:∀j,j<i+1->Ij P5 D (valOf y ⟨ino,3,((first+j:Nat):Int)⟩) (Qv ((l.drop (128*j)).take 128)):=λj hj=>by
    by_cases a2:j=i
    ·subst a2;rw[Z.out];exact a0
    ·have a5:¬((⟨ino,3,((first+j:Nat):Int)⟩:Kd)=⟨ino,3,((first+i:Nat):Int)⟩):=λe=>by
      injection e with _ _ e;omega
     obtain⟨s1,s2⟩:=T5.same _ a5;rw[s1];exact s2 rfl _ (HC.out j (by omega))
   clear w1 w2 w3 w4 l4 A;go_wp2_with fail
   exact⟨⟨i+1,r5,P5,y,by omega,rfl,by go_num,F5,hT,J,by omega⟩,by simp[intOf];omega⟩
  ·have a1:i=cnt:=by omega
   subst a1;go_wp2_with fail
   go_ret2;exact⟨r,P',its',rfl,F,T,J,a3⟩
end
theorem q86 {L e:LU}{off:Nat}(h:off+e.length<=L.length)(i:Nat):Xe (splice L off e) i=if off<=i/\i<off+e.length then Xe e (i-off) else Xe L i:=by
 unfold splice;by_cases h1:i<off
 ·rw[q75 (by rw[AR];omega),Ob,AA h1,AB (by omega)]
 ·rw[q5n (by rw[AR];omega),AR,Nat.min_eq_left (by omega)];by_cases h2:i<off+e.length
  ·rw[q75 (by omega),AA ⟨by omega,h2⟩]
  ·rw[q5n (by omega),q2l,AB (by omega)];congr 1
   omega
section
variable {P:Pl}{D:DM}{its:List Qb}{ino:Int}{bs:LU}{fr up:Nat}
theorem q76 {x:Qb}:x∈within ⟨ino,3,(fr:Int)⟩ ⟨ino,3,(up:Int)⟩ its↔x∈its/\∃c:Nat,x.k=⟨ino,3,(c:Int)⟩/\fr<=c/\c<=up:=by
 unfold within;rw[List.mem_filter];refine and_congr_right λ_=>?_
 constructor
 ·intro h;obtain⟨h1,h2⟩:=Bool.and_eq_true_iff.1 h;have h1:¬x.k.less ⟨ino,3,(fr:Int)⟩=true:=by simpa using h1
  have h2:¬Kd.less ⟨ino,3,(up:Int)⟩ x.k=true:=by simpa using h2
  rw[Kd.Vh] at h1 h2;dsimp only at h1 h2;obtain⟨k,v⟩:=x;obtain⟨o,B,f⟩:=k;dsimp only at h1 h2 ⊢;refine⟨f.toNat,?_,by omega,by omega⟩;have u:o=ino:=by omega
  have y:B=3:=by omega
  have A:f=((f.toNat:Nat):Int):=by omega
  rw[<-A,u,y]
 ·rintro⟨c,h,h1,h2⟩;rw[h];refine Bool.and_eq_true_iff.2 ⟨?_,?_⟩
  ·have:Kd.less ⟨ino,3,(c:Int)⟩ ⟨ino,3,(fr:Int)⟩=false:=by
    cases e:Kd.less ⟨ino,3,(c:Int)⟩ ⟨ino,3,(fr:Int)⟩ with
    |false=>rfl
    |true=>
     have:=(Kd.Vh _ _).1 e;dsimp only at this;omega
   rw[this];rfl
  ·have:Kd.less ⟨ino,3,(up:Int)⟩ ⟨ino,3,(c:Int)⟩=false:=by
    cases e:Kd.less ⟨ino,3,(up:Int)⟩ ⟨ino,3,(c:Int)⟩ with
    |false=>rfl
    |true=>
     have:=(Kd.Vh _ _).1 e;dsimp only at this;omega
   rw[this];rfl
def Ld (P:Pl)(D:DM)(v t:LU):Prop:=Yl v=true/\t≠[]/\((J4 v=0/\Vq v=t)\/(J4 v≠0/\Vq v=[]/\24<t.length/\P.dat D (J4 v)=(0,t)))
theorem qbf {v t:LU}(h:Ij P D (some v) t):Ld P D v t:=by
 rcases h with⟨_,h⟩|⟨h1,h2,A⟩|⟨h1,a,h2,A,B,E⟩
 ·cases h
 ·have e:=OI A;obtain⟨u,f,y⟩:=ql4 t 0 (AL (.inr ⟨rfl,h1,h2⟩));rw[e];exact⟨u,λh=>by rw[h] at h1;simp at h1,.inl ⟨f,y⟩⟩
 ·have e:=OI B;obtain⟨u,f,y⟩:=ql4 [] (a:Int) (AL (.inl ⟨rfl,by omega,by omega⟩));rw[e];exact⟨u,λh=>by rw[h] at h1;simp at h1,.inr ⟨by rw[f];omega,y,h1,by rw[f];exact E⟩⟩
theorem Zt.item (F:Zt P D its ino bs)(hr:Qg its){x:Qb}(hx:x∈its){c:Nat}(hk:x.k=⟨ino,3,(c:Int)⟩)(hc:c<=2147483647):Ld P D x.v (Za bs c):=by
 refine qbf ?_;have:=F.at_ c hc;rwa [<-hk,q6p hr x hx] at this
theorem Zt.there (F:Zt P D its ino bs){c:Nat}(hc:c<=2147483647)(h:Za bs c≠[]):∃x∈its,x.k=⟨ino,3,(c:Int)⟩:=by
 have h1:=F.at_ c hc
 cases e:valOf its ⟨ino,3,(c:Int)⟩ with
 |some v=>exact⟨_,q1s e,rfl⟩
 |none=>
  rw[e] at h1;rcases h1 with⟨h1,_⟩|⟨_,_,h1⟩|⟨_,_,_,_,h1,_⟩
  ·exact absurd h1 h
  ·cases h1
  ·cases h1
def Buf (bs:LU)(fr M:Nat)(S:List Qb)(R:LU):Prop:=
 R.length=M/\∀i,i<M->((∃y∈S,y.k.off=((fr+i / 128:Nat):Int))->Xe R i=Xe bs (128*fr+i))/\((¬∃y∈S,y.k.off=((fr+i / 128:Nat):Int))->Xe R i=0)
theorem qrq (bs:LU)(fr M:Nat):Buf bs fr M [] (zeros M):=⟨BK ..,λi _=>⟨λ⟨_,h,_⟩=>absurd h List.not_mem_nil,λ_=>qex M i⟩⟩
theorem qv3 {M:Nat}{S:List Qb}{R:LU}{x:Qb}{c:Nat}(h:Buf bs fr M S R)(G:x.k.off=(c:Int))(hn:∀y∈S,y.k.off≠(c:Int))(J:fr<=c)(I:128*(c-fr)+128<=M):Buf bs fr M (S++[x]) (splice R (128*(c-fr)) (Za bs c)):=by
 obtain⟨H,E⟩:=h;have O:=qbc bs c;refine⟨by rw[length_splice _ _ _ (by omega)];exact H,λi hi=>?_⟩;have f:(∃y∈S++[x],y.k.off=((fr+i / 128:Nat):Int))↔(∃y∈S,y.k.off=((fr+i / 128:Nat):Int))\/fr+i / 128=c:=by
  constructor
  ·rintro⟨y,u,e⟩;rcases List.mem_append.1 u with u|u
   ·exact .inl ⟨y,u,e⟩
   ·rw[List.mem_singleton.1 u,G] at e;exact .inr (by omega)
  ·rintro (⟨y,u,e⟩|e)
   ·exact⟨y,List.mem_append_left _ u,e⟩
   ·exact⟨x,AU _ (List.mem_singleton.2 rfl),by rw[G,e]⟩
 rw[q86 (by omega),f];replace f:=HI f;have E:=HI (E i hi);by_cases A:fr+i / 128=c
 ·have K:128*(c-fr)<=i/\i<128*(c-fr)+128:=by omega
  have F:Xe (Za bs c) (i-128*(c-fr))=Xe bs (128*fr+i):=by
   rw[qbb,AA (by omega)];congr 1
   omega
  refine⟨λ_=>?_,λB=>absurd (.inr A) B⟩;split
  ·exact F
  ·next hlt=>
   have h0:=E.out.2 (λ⟨y,u,e⟩=>hn y u (by rw[e,A]));rw[h0,<-F];exact (q4x (by omega)).symm
 ·have B:¬(128*(c-fr)<=i/\i<128*(c-fr)+(Za bs c).length):=by omega
  rw[AB B];exact⟨λh=>E.out.1 (h.resolve_right A),λh=>E.out.2 λe=>h (.inl e)⟩
theorem qxr {M:Nat}{R:LU}(F:Zt P D its ino bs)(E:up<=2147483647)(H:M=128*(up-fr+1))(B:fr<=up)(h:Buf bs fr M (within ⟨ino,3,(fr:Int)⟩ ⟨ino,3,(up:Int)⟩ its) R):R.length=M/\∀i,i<M->Xe R i=Xe bs (128*fr+i):=by
 refine⟨h.1,λi hi=>?_⟩;have A:fr+i / 128<=up:=by omega
 by_cases e:∃y∈within ⟨ino,3,(fr:Int)⟩ ⟨ino,3,(up:Int)⟩ its,y.k.off=((fr+i / 128:Nat):Int)
 ·exact (h.2 i hi).1 e
 ·rw[(h.2 i hi).2 e];have h0:Za bs (fr+i / 128)=[]:=Classical.byContradiction λf=>by
   obtain⟨x,G,u⟩:=F.there (c:=fr+i / 128) (by omega) f;exact e ⟨x,q76.2 ⟨G,_,u,by omega,A⟩,by rw[u]⟩
  have:=qn9 h0 (j:=i % 128) (Nat.mod_lt _ (by omega));rw[<-this];congr 1
  omega
end
section
variable {b:Nat}{w w':WD}{d p:Nat}{U Q V:NP}{D:DM}{P:Pl}{root:Int}{its:List Qb}{X:LI}{m:Nat}{g:Int}
theorem Ft.shorten {l t:LU}{ex:Int}{ro:Nat}(h:Ft b w d p U Q V D P root its X m g)(hb:1<b)(ino c:Int)(hi:0<=ino/\ino<=2147483647)(hc:0<=c/\c<=2147483647)(B:OA)(q cp:Nat)(hs:Sl w B q cp l)(hB:l≠[]->∀g,q01 B=some g->¬U g)(ha:(ex=0/\l=t)\/(ex≠0/\P.dat D ex=(0,t)))(left:Nat)(hl:left<=128)(ht:Qv t=t)(hC:Ij P D (valOf its ⟨ino,3,c⟩) t)(hR:Yw P ro)(hro:2*its.length+X.length<=ro)(hfew:its.length<1000)(hX:X.length<=8000) :
  Calls prog 19 #[.pointer (some ⟨p,0,none⟩),.int .i64 root,.int .i64 ino,.agg #[.int .i64 c,.slice B q cp,.int .i64 ex],.int .i64 (left:Int)] w (qiu b w d p U Q V D P its X ⟨ino,3,c⟩ (Qv (t.take left)) m g):=by
 have I:IB (w.alloc (.cells #[.int .i64 c,.slice B q cp,.int .i64 ex] 55)) w.1.size [.int .i64 c,.slice B q cp,.int .i64 ex]:=IB.new w _ _;have G:Below w.1.size w (w.alloc (.cells #[.int .i64 c,.slice B q cp,.int .i64 ex] 55)):=Ql;have E:=λk hk=>(h.ed.low k hk).2
 obtain⟨w1,a3⟩:∃u,w.alloc (.cells #[.int .i64 c,.slice B q cp,.int .i64 ex] 55)=u:=⟨_,rfl⟩;rw[a3] at I G;have c0:=I.cell 0 rfl;have c1:=I.cell 1 rfl;have c2:=I.cell 2 rfl;have h1:=h.below G;by_cases h0:left=0
 ·subst h0;rw[List.take_zero];have M:=HI (h1.Qbj hb ino c hi hc none 0 0 (G6 w1) (by simp) (λ_ h=>by cases h) hR hro hfew hX);go_enter func19,ntmps19
  go_wp2_with fail
  refine M.out.mono ?_;rintro e J ⟨r,P',its',rfl,F,T,a0,O⟩;clear M;go_wp2_with fail
  go_ret2;exact⟨r,P',its',rfl,F,T.ahead G,a0,O⟩
 ·have l0:((left:Int)==0)=false:=beq_eq_false_iff_ne.2 (by omega);have l1:decide ((left:Int)=0)=false:=AH (by omega);have K:=HI (h1.content B q cp ex l t (hs.below G) ha);go_enter func19,ntmps19
  go_wp2_with fail
  refine K.out.mono ?_;rintro e J ⟨A,n,k,rfl,y,b2,hA⟩;have hn:=y.len;have hk:=y.cap;have hm:=y.max;unfold maxLen at hm;have h2:=h1.below b2;have B2:=G.trans (b2.mono G.size);have N2:=I.below b2 I.lt;clear K c0 c1 c2;by_cases O:n<=left
  ·have e1:Qv (t.take left)=t:=by rw[AN (by omega)];exact ht
   have R:(n:Int)<=(left:Int):=by omega
   go_wp2_with fail
   go_ret2;exact⟨root,P,its,rfl,h2,Yb.refl D P its X _ U V B2,by rw[e1];exact hC,by omega⟩
  ·have R:¬(n:Int)<=(left:Int):=by omega
   have f:Below J.1.size J J.drew:=(AI _ _).drew;have x1:(0:Int)<=(left:Int):=by omega
   have x2:(left:Int)<=(k:Int):=by omega
   have M:=HI ((h2.below f).Qbj hb ino c hi hc A left k ((y.take (k:=left) (by omega)).below f) (by rw[AR];omega) (λg hg Z=>by
    rcases hA g hg with⟨e0,e⟩|e
    ·have a2:=(ha.resolve_right λh=>h.1 e0).2;exact hB (λe=>by rw[<-a2,e] at hn;simp at hn;omega) g e Z
    ·have:=E g Z;have:=G.size;omega) hR hro hfew hX)
   have H:∀u,Turn U J.drew u->u.cell? ⟨w.1.size,0,none⟩=some (.int .i64 c):=λu Z=>(N2.keep (((Zb f).trans Z λ_ h=>.inl h).block w.1.size N2.lt λhU=>by have:=E _ hU;omega)).cell 0 rfl
   have a4:J.cell? ⟨w.1.size,0,none⟩=some (.int .i64 c):=N2.cell 0 rfl;go_wp2_with fail
   go_region_held3 (λu=>u.cell? ⟨w.1.size,0,none⟩=some (.int .i64 c))
    (first|assumption|exact H _ (Turn.refl _ _)|exact H _ T5.Ah)
    (first
     |(go_at_call 28;refine M.out.mono ?_;rintro e w5 ⟨r5,P5,Y,rfl,F5,T5,a1,W⟩)
     |fail)
   clear M H;go_wp2_with fail
   go_ret2;exact⟨r5,P5,Y,rfl,F5,T5.ahead (B2.trans (f.mono B2.size)),a1,W⟩
end
