/- Plain facts about a number shifted by a byte and a byte laid under it -/
import Derived.Test.YtloolbmdiimanaaGreatDoorGv1
import Derived.Lib.SlBytesConst
namespace Go.Proofs.YtloolbmdiimanaaGreatDoor
open Go Go.RowKit Go.Proofs Tryz
set_option maxHeartbeats 400000
theorem qab (a:Nat)(d:a<9223372036854775808):(BitVec.ofInt 64 (a:Int)).toNat=a:=by
 rw[BitVec.ofInt_natCast,BitVec.toNat_ofNat];exact Nat.mod_eq_of_lt (by omega)
theorem qi3 (a b:Nat)(d:b<256):a*256 ||| b=a*256+b:=by
 have h:=Nat.two_pow_add_eq_or_of_lt (i:=8) (b:=b) (by omega) a;rw[show (2:Nat) ^ 8=256 from rfl] at h;rw[Nat.mul_comm];exact h.symm
theorem qws (a b:Nat)(e:a<36028797018963968)(d:b<256):bits .or .i64 ((a:Int)*256) (b:Int)=((256*a+b:Nat):Int):=by
 show IntKind.i64.wrap ((BitVec.ofInt 64 ((a:Int)*256) ||| BitVec.ofInt 64 (b:Int)).toNat:Int)=_;rw[show ((a:Int)*256)=((a*256:Nat):Int) by omega,BitVec.toNat_or,qab _ (by omega),qab _ (by omega),qi3 _ _ d,IntWalk.i64_in _ (by omega)];omega
def Qq (l:LU):Nat:=l.foldl (λa b=>256*a+b.toNat) 0
theorem qfu (l:LU)(b:UInt8):Qq (l++[b])=256*Qq l+b.toNat:=by simp[Qq]
theorem q7p (l:LU):Qq l<256 ^ l.length:=by
 suffices h:∀n (l:LU),l.length=n->Qq l<256 ^ n from h _ l rfl
 intro n;induction n with
 |zero=>intro l f;rw[BF f];simp[Qq]
 |succ n ih=>
  intro l f;have d:l≠[]:=by intro e;rw[e] at f;simp at f
  have hd:=List.dropLast_concat_getLast d;have h1:=ih l.dropLast (by rw[List.length_dropLast];omega);have h2:=(l.getLast d).toNat_lt;rw[<-hd,qfu,Nat.pow_succ];omega
theorem qp3 (l:LU)(k:Nat)(h:k<l.length):Qq (l.take (k+1))=256*Qq (l.take k)+Xr l k:=by
 rw[q9v l k h,qfu];have:=q8h l k;simp;omega
theorem q7q (A:OA)(n c:Nat)(l:LU)(w:WD)(h:Sl w A n c l)(y:n<=7) :
  Calls prog 89 #[.slice A n c] w λe p=>e=.returned (.int .i64 (Qq l))/\w=p:=by
 have D:=h.cap;have hm:=h.max;unfold maxLen at hm;go_enter func89,ntmps89
 go_wp2;go_loop [3,8] (λx i=>∃k:Nat,k<=n/\i=.int .i64 k/\x=.int .i64 (Qq (l.take k))) (λ_ i=>n-(intOf i).toNat)
 case atStart=>exact⟨0,AW _,rfl,rfl⟩
 case round=>
  obtain⟨k,E,rfl,rfl⟩:=hrel;by_cases f:k<n
  ·obtain⟨u,rfl,B,d⟩:=h.cell f;have m:=q8h l k;have g:Qq (l.take k)<36028797018963968:=by
    have h1:=q7p (l.take k);have h2:(256:Nat) ^ (l.take k).length<=256 ^ 6:=Nat.pow_le_pow_right (by omega) (by rw[AR];omega);omega
   go_wp2;refine⟨⟨k+1,by omega,by go_num,?_⟩,by simp[intOf];omega⟩;have F:=h.len;rw[qp3 _ _ (by omega),<-qws _ _ g (by omega)]
  ·go_wp2;go_ret;exact⟨q9u (by rw[AN (by have:=h.len;omega)]),rfl⟩
def low (x:Int)(i:Nat):UInt8:=UInt8.ofNat (x / 2 ^ (8*i) % 256).toNat
def Q8 (x:Int):Nat->LU
 |0=>[]
 |k+1=>low x k::Q8 x k
theorem Xz (x:Int)(k:Nat):(Q8 x k).length=k:=by induction k with
 |zero=>rfl
 |succ k ih=>simp[Q8,ih]
def part (x:Int)(n k:Nat):LU:=List.replicate (n-k) 0++Q8 x k
theorem qtf (x:Int)(n k:Nat)(h:k<n):(part x n k).set (n-1-k) (low x k)=part x n (k+1):=by
 unfold part;have e:n-k=n-(k+1)+1:=by omega
 rw[e,List.replicate_succ',AM,List.set_append_right _ _ (by simp;omega)];simp[Q8,show n-1-k-(n-(k+1))=0 by omega]
theorem qyi (x:Int)(k:Nat):bv (low x k)=.int .u8 (x / 2 ^ (8*k) % 256):=by
 unfold bv low;rw[UInt8.toNat_ofNat'];congr 1
 omega
theorem qcd (x m:Int)(w:WD)(h1:1<=m)(u:m<=8) :
  Calls prog 95 #[.int .i64 x,.int .i64 m] w λe p=>∃A c,e=.returned (.slice A m.toNat c)/\Own p w.1.size 5 A m.toNat c (Q8 x m.toNat)/\Below w.1.size w p:=by
 obtain⟨n,rfl⟩:=Int.eq_ofNat_of_zero_le (show 0<=m by omega);rw[AJ];go_enter func95,ntmps95
 go_wp2_with (at_make;refine q9w _ Cb rfl _ _ rfl _ _ n rfl rfl (by omega) ?_)
 intro E d f;go_wp2;go_loopw [11] (λi wr=>∃k:Nat,k<=n/\i=.int .i64 k/\Own wr w.1.size 5 (some ⟨w.1.size,0,none⟩) n n (part x n k)/\Below w.1.size w wr) (λi _=>n-(intOf i).toNat)
 case atStart=>exact⟨0,AW _,rfl,by simpa [part,Q8] using d,f⟩
 case round=>
  obtain⟨k,D,rfl,d,f⟩:=hrel;by_cases g:k<n
  ·obtain⟨y,B⟩:=d.at_ (n-1-k) (by omega);have hn:=d.G7 (n-1-k) (low x k);rw[qtf x n k g,qyi] at hn;go_wp2;exact⟨⟨k+1,by omega,by go_num,hn,f.setCell (AE _) _⟩,by simp[intOf];omega⟩
  ·obtain rfl:k=n:=by omega
   go_wp2;go_ret;refine⟨_,_,rfl,?_,f⟩;simpa [part] using d
theorem qm6 (l:LU)(a:Nat):l.foldl (λa b=>256*a+b.toNat) a=a*256 ^ l.length+Qq l:=by
 induction l generalizing a with
 |nil=>simp[Qq]
 |cons b l ih=>
  unfold Qq;rw[List.foldl_cons,List.foldl_cons,ih,ih (256*0+b.toNat),AX,Nat.pow_succ,Nat.add_mul,Nat.add_mul];have e:256*a*256 ^ l.length=a*(256 ^ l.length*256):=by rw[Nat.mul_comm 256 a,Nat.mul_assoc,Nat.mul_comm 256]
  omega
theorem qm7 (b:UInt8)(l:LU):Qq (b::l)=b.toNat*256 ^ l.length+Qq l:=by
 have h:=qm6 l (256*0+b.toNat);have e:(256*0+b.toNat)*256 ^ l.length=b.toNat*256 ^ l.length:=by rw[Nat.mul_zero,AT]
 rw[e] at h;exact h
theorem qtg (u k:Nat):(low (u:Int) k).toNat=u / 256 ^ k % 256:=by
 unfold low;have e:((u:Int) / 2 ^ (8*k) % 256)=((u / 256 ^ k % 256:Nat):Int):=by
  rw[show (256:Nat) ^ k=2 ^ (8*k) by rw[Nat.pow_mul],Int.natCast_emod,Int.natCast_ediv,Int.natCast_pow];rfl
 rw[e,AJ,UInt8.toNat_ofNat'];omega
theorem qfv (u k:Nat):Qq (Q8 (u:Int) k)=u % 256 ^ k:=by
 induction k with
 |zero=>simp[Q8,Qq,Nat.mod_one]
 |succ k ih=>
  rw[Q8,qm7,Xz,ih,qtg,Nat.mod_pow_succ,Nat.mul_comm];omega
structure Kd where
 obj:Int
 kind:Int
 off:Int
def Kd.may (k:Kd):Bool:=decide ((0<=k.obj/\k.obj<=2147483647)/\(0<=k.kind/\k.kind<=255)/\0<=k.off/\k.off<=2147483647)
def Kd.less (a b:Kd):Bool:=if a.obj=b.obj then if a.kind=b.kind then decide (a.off<b.off) else decide (a.kind<b.kind) else decide (a.obj<b.obj)
def Kd.bytes (k:Kd):LU:=Q8 k.obj 4++(Q8 k.kind 1++Q8 k.off 4)
theorem Kd.X0 (k:Kd):k.bytes.length=9:=by simp[Kd.bytes,Xz]
theorem q6s (x:Int)(m:Nat)(h0:0<=x)(h1:x<(256 ^ m:Nat)):(Qq (Q8 x m):Int)=x:=by
 obtain⟨u,rfl⟩:=Int.eq_ofNat_of_zero_le h0;rw[qfv,Nat.mod_eq_of_lt (by omega)]
theorem Kd.total (a b:Kd):(a.less b=true/\b.less a=false/\a≠b)\/(a.less b=false/\b.less a=true/\a≠b)\/(a.less b=false/\b.less a=false/\a=b):=by
 obtain⟨o,k,f⟩:=a;obtain⟨m,g,e⟩:=b;unfold Kd.less;simp only[Kd.mk.injEq,ne_eq];by_cases h1:o=m
 ·by_cases h2:k=g
  ·subst h1;subst h2;by_cases d:f=e
   ·subst d;simp
   ·rcases Int.lt_or_gt_of_ne d with h|h
    ·left;simp[d,h];omega
    ·right;left;simp[d,h];omega
  ·subst h1;rcases Int.lt_or_gt_of_ne h2 with h|h
   ·left;simp[h2,Ne.symm h2,h];omega
   ·right;left;simp[h2,Ne.symm h2,h];omega
 ·rcases Int.lt_or_gt_of_ne h1 with h|h
  ·left;simp[h1,Ne.symm h1,h];omega
  ·right;left;simp[h1,Ne.symm h1,h];omega
theorem Kd.Vh (a b:Kd):a.less b=true↔a.obj<b.obj\/(a.obj=b.obj/\(a.kind<b.kind\/(a.kind=b.kind/\a.off<b.off))):=by
 unfold Kd.less;by_cases h1:a.obj=b.obj
 ·by_cases h2:a.kind=b.kind
  ·rw[AA h1,AA h2,decide_eq_true_iff];omega
  ·rw[AA h1,AB h2,decide_eq_true_iff];omega
 ·rw[AB h1,decide_eq_true_iff];omega
def Kd.same (a b:Kd):Bool:=decide (a.obj=b.obj/\a.kind=b.kind/\a.off=b.off)
theorem Kd.same_iff (a b:Kd):a.same b=true↔a.obj=b.obj/\a.kind=b.kind/\a.off=b.off:=decide_eq_true_iff
theorem Kd.Qan (k:Kd):k.may=true↔(0<=k.obj/\k.obj<=2147483647)/\(0<=k.kind/\k.kind<=255)/\0<=k.off/\k.off<=2147483647:=decide_eq_true_iff
theorem Kd.trans (a b c:Kd)(h1:a.less b=true)(h2:b.less c=true):a.less c=true:=by
 rw[Kd.Vh] at *;omega
theorem q57 (A:OA)(k c:Nat)(f:List (LU))(w:WD)(h:Parts w A k c f)(X:tot f k<=35184372088832) :
  Calls prog 90 #[.slice A k c] w λe Q=>∃y u D,e=.returned (.slice y u D)/\Own Q w.1.size 5 y u D (cat f k)/\Below w.1.size w Q:=by
 have U:k<=c:=h.2.1;have hm:c<=maxLen:=h.2.2.1;unfold maxLen at hm;have K:=HI h.len;go_enter func90,ntmps90
 go_wp2;go_loop [3,11] (λs i=>∃j:Nat,j<=k/\i=.int .i64 j/\s=.int .i64 (tot f j:Nat)) (λ_ i=>k-(intOf i).toNat)
 case atStart=>exact⟨0,AW _,rfl,by rw[qsh];rfl⟩
 case round=>
  obtain⟨j,Y,rfl,rfl⟩:=hrel;by_cases P:j<k
  ·obtain⟨T,B,n,d,rfl,H,E,J⟩:=h.cell P;have F:=qvh f (j+1) k (by omega);have hn:=qjf f j (by rw[K.out];omega);rw[J.len] at hn;have R:=HI hn;rw[hn] at F;clear hn;go_wp2;exact⟨⟨j+1,by omega,by go_num,by rw[R.out];go_num⟩,by simp[intOf];omega⟩
  ·obtain rfl:j=k:=by omega
   go_wp2_with (at_make;refine qf9 _ Cb rfl _ _ rfl _ _ (tot f j) rfl rfl (by omega) ?_)
   intro w1 G M;go_wp2;go_loopw [6,24] (λs i wr=>∃(q:Nat) (y:OA) (u D:Nat),q<=j/\i=.int .i64 q/\s=.slice y u D/\Own wr w.1.size 5 y u D (cat f q)/\Below w.1.size w wr) (λ_ i _=>j-(intOf i).toNat)
   case atStart=>exact⟨0,_,_,_,AW _,rfl,rfl,by rw[qsg];exact G,M⟩
   case round=>
    obtain⟨q,y,u,D,Z,rfl,rfl,g,p⟩:=hrel;by_cases I:q<j
    ·have F:=qvh f (q+1) j (by omega);have hn:=qjf f q (by rw[K.out];omega);obtain⟨T,B,n,d,rfl,H,E,J⟩:=(h.below p).cell I;rw[J.len,show tot f q=u from g.len] at hn;rw[hn] at F;clear hn;go_wp2_with (at_builtin;refine q5z _ Cb rfl _ _ rfl w.1.size y u D _ rfl g B n d _ rfl J (by omega) p.size ?_)
     intro W c2 w2 m O;rw[<-qje f q (by rw[K.out];omega)] at m;go_wp2;exact⟨⟨q+1,_,_,_,by omega,by go_num,rfl,m,p.trans O⟩,by simp[intOf];omega⟩
    ·obtain rfl:q=j:=by omega
     go_wp2;go_ret;exact⟨_,_,_,rfl,g,p⟩
def G5 (l:LU)(x n:Int):LU:=if 1<=n/\n<=8 then l++Q8 x n.toNat else l
theorem q7r (A:OA)(k c:Nat)(l:LU)(x n:Int)(w:WD)(h:Sl w A k c l)(O:k<=17592186044416) :
  Calls prog 65 #[.slice A k c,.int .i64 x,.int .i64 n] w λe I=>∃y G D,e=.returned (.slice y G D)/\Own I w.1.size 5 y G D (G5 l x n)/\Below w.1.size w I:=by
 have F:=h.len;have u:=HI F;clear F;by_cases h1:1<=n
 ·by_cases E:n<=8
  ·have p:=HI (show G5 l x n=l++Q8 x n.toNat from AA ⟨h1,E⟩);go_enter func65,ntmps65
   go_wp2_with (first
    |(go_at_call 95;refine (qcd x n _ h1 E).mono ?_;rintro e P ⟨M,c1,rfl,m,g⟩)
    |(go_at_call 90;refine (q57 _ _ _ [l,Q8 x n.toNat] _ (Qbh 22 (h.below g) m.sl) (by rw[Qc4,Xz,u.out];omega)).mono ?_;rintro e J ⟨B,H,c2,rfl,d,f⟩))
   go_ret;rw[Qcr,<-p.out] at d;have K:=g.size;exact⟨_,_,_,rfl,d.less (by simp;omega),g.trans (((AI _ _).alloc K _).trans (f.mono (by simp;omega)))⟩
  ·have p:=HI (show G5 l x n=l from AB (by omega));go_enter func65,ntmps65
   go_wp2_with (go_at_call 90;refine (q57 _ _ _ [l] _ (Bl 22 h) (by rw[Qat,u.out];omega)).mono ?_;rintro e J ⟨B,H,c2,rfl,d,f⟩)
   go_ret;rw[Qaj] at d;rw[p.out];exact⟨_,_,_,rfl,d.less (by simp),(Ql).trans (f.mono (by simp))⟩
 ·have p:=HI (show G5 l x n=l from AB (by omega));go_enter func65,ntmps65
  go_wp2_with (go_at_call 90;refine (q57 _ _ _ [l] _ (Bl 22 h) (by rw[Qat,u.out];omega)).mono ?_;rintro e J ⟨B,H,c2,rfl,d,f⟩)
  go_ret;rw[Qaj] at d;rw[p.out];exact⟨_,_,_,rfl,d.less (by simp),(Ql).trans (f.mono (by simp))⟩
theorem qi4 (w:WD)(e:TypeId)(fr:Nat × Nat)(l:LU)(d:Array Value)(h:d.toList=l.map bv)(hm:l.length<=16777216):Sl (w.alloc (.cells d e fr)) (some ⟨w.1.size,0,none⟩) l.length l.length l:=by
 refine⟨by simp,AE _,by unfold maxLen;omega,λj u f=>⟨_,rfl,by simp,?_⟩⟩;rw[Addr.add_lit,AT,World.cell?_alloc_mark,<-f,<-h];simp
theorem Sl.one {w:WD}{A:OA}{n c:Nat}{l:LU}(h:Sl w A n c l){k:Nat}(hk:k<n):∃d,A=some d/\Sl w (some (d.add k)) 1 (c-k) [UInt8.ofNat (Xr l k)]:=by
 obtain⟨d,rfl,f,m⟩:=h.cell hk;refine⟨d,rfl,⟨rfl,by have:=h.cap;omega,by have:=h.max;omega,λj u g=>?_⟩⟩;rcases j with _|j
 ·refine⟨_,rfl,by rw[Oa];exact f,?_⟩;rw[qjd,Nat.add_zero,m];have f:=q8h l k;have e:u=bv (UInt8.ofNat (Xr l k)):=by simpa using g.symm
  rw[e];unfold bv;rw[UInt8.toNat_ofNat',Nat.mod_eq_of_lt (by omega)]
 ·simp at g
