/- Plain facts about a number shifted by a byte and a byte laid under it -/
import Derived.Test.YthkfkhejjmhomaaGreatDoorDb1
import Derived.Lib.SlBytesConst
namespace Go.Proofs.YthkfkhejjmhomaaGreatDoor
open Go Go.RowKit Go.Proofs
set_option maxHeartbeats 400000
theorem q9t (a:Nat)(d:a<9223372036854775808):(BitVec.ofInt 64 (a:Int)).toNat=a:=by
 rw[BitVec.ofInt_natCast,BitVec.toNat_ofNat];exact Nat.mod_eq_of_lt (by omega)
theorem qhc (a b:Nat)(d:b<256):a*256 ||| b=a*256+b:=by
 have h:=Nat.two_pow_add_eq_or_of_lt (i:=8) (b:=b) (by omega) a;rw[show (2:Nat) ^ 8=256 from rfl] at h;rw[Nat.mul_comm];exact h.symm
theorem qwv (a b:Nat)(e:a<36028797018963968)(d:b<256):bits .or .i64 ((a:Int)*256) (b:Int)=((256*a+b:Nat):Int):=by
 show IntKind.i64.wrap ((BitVec.ofInt 64 ((a:Int)*256) ||| BitVec.ofInt 64 (b:Int)).toNat:Int)=_;rw[show ((a:Int)*256)=((a*256:Nat):Int) by omega,BitVec.toNat_or,q9t _ (by omega),q9t _ (by omega),qhc _ _ d,IntWalk.i64_in _ (by omega)];omega
def Qw (l:List UInt8):Nat:=l.foldl (λa b=>256*a+b.toNat) 0
theorem qez (l:List UInt8)(b:UInt8):Qw (l++[b])=256*Qw l+b.toNat:=by simp[Qw]
theorem q77 (l:List UInt8):Qw l<256 ^ l.length:=by
 suffices h:∀n (l:List UInt8),l.length=n->Qw l<256 ^ n from h _ l rfl
 intro n;induction n with
 |zero=>intro l f;rw[List.eq_nil_of_length_eq_zero f];simp[Qw]
 |succ n ih=>
  intro l f;have d:l≠[]:=by intro e;rw[e] at f;simp at f
  have hd:=List.dropLast_concat_getLast d;have h1:=ih l.dropLast (by rw[List.length_dropLast];omega);have h2:=(l.getLast d).toNat_lt;rw[<-hd,qez,Nat.pow_succ];omega
theorem qo7 (l:List UInt8)(k:Nat)(h:k<l.length):Qw (l.take (k+1))=256*Qw (l.take k)+Ku l k:=by
 rw[qef l k h,qez];have:=q96 l k;simp;omega
theorem q78 (A:Option Addr)(n c:Nat)(l:List UInt8)(w:World)(h:Sl w A n c l)(B:n<=7) :
  Calls Tryz.prog 220 #[.slice A n c] w λe u=>e=.returned (.int .i64 (Qw l))/\w=u:=by
 have E:=h.cap;have hm:=h.max;unfold maxLen at hm;go_enter Tryz.func220,Tryz.ntmps220
 go_wp2;go_loop [3,8] (λx i=>∃k:Nat,k<=n/\i=.int .i64 k/\x=.int .i64 (Qw (l.take k))) (λ_ i=>n-(intOf i).toNat)
 case atStart=>exact⟨0,Nat.zero_le _,rfl,rfl⟩
 case round=>
  obtain⟨k,F,rfl,rfl⟩:=hrel;by_cases f:k<n
  ·obtain⟨y,rfl,D,d⟩:=h.cell f;have p:=q96 l k;have m:Qw (l.take k)<36028797018963968:=by
    have h1:=q77 (l.take k);have h2:(256:Nat) ^ (l.take k).length<=256 ^ 6:=Nat.pow_le_pow_right (by omega) (by rw[List.length_take];omega);omega
   go_wp2;refine⟨⟨k+1,by omega,by go_num,?_⟩,by simp[intOf];omega⟩;have G:=h.len;rw[qo7 _ _ (by omega),<-qwv _ _ m (by omega)]
  ·go_wp2;go_ret;exact⟨qgq (by rw[List.take_of_length_le (by have:=h.len;omega)]),rfl⟩
def low (x:Int)(i:Nat):UInt8:=UInt8.ofNat (x / 2 ^ (8*i) % 256).toNat
def Qy (x:Int):Nat->List UInt8
 |0=>[]
 |k+1=>low x k::Qy x k
theorem Xf (x:Int)(k:Nat):(Qy x k).length=k:=by induction k with
 |zero=>rfl
 |succ k ih=>simp[Qy,ih]
def part (x:Int)(n k:Nat):List UInt8:=List.replicate (n-k) 0++Qy x k
theorem qt2 (x:Int)(n k:Nat)(h:k<n):(part x n k).set (n-1-k) (low x k)=part x n (k+1):=by
 unfold part;have e:n-k=n-(k+1)+1:=by omega
 rw[e,List.replicate_succ',List.append_assoc,List.set_append_right _ _ (by simp;omega)];simp[Qy,show n-1-k-(n-(k+1))=0 by omega]
theorem qyq (x:Int)(k:Nat):bv (low x k)=.int .u8 (x / 2 ^ (8*k) % 256):=by
 unfold bv low;rw[UInt8.toNat_ofNat'];congr 1
 omega
theorem qbm (x m:Int)(w:World)(h1:1<=m)(y:m<=8) :
  Calls Tryz.prog 178 #[.int .i64 x,.int .i64 m] w λe u=>∃A c,e=.returned (.slice A m.toNat c)/\Own u w.1.size 5 A m.toNat c (Qy x m.toNat)/\Below w.1.size w u:=by
 obtain⟨n,rfl⟩:=Int.eq_ofNat_of_zero_le (show 0<=m by omega);rw[Int.toNat_natCast];go_enter Tryz.func178,Tryz.ntmps178
 go_wp2_with (at_make;refine qeh _ Ig rfl _ _ rfl _ _ n rfl rfl (by omega) ?_)
 intro F d f;go_wp2;go_loopw [11] (λi wr=>∃k:Nat,k<=n/\i=.int .i64 k/\Own wr w.1.size 5 (some ⟨w.1.size,0,none⟩) n n (part x n k)/\Below w.1.size w wr) (λi _=>n-(intOf i).toNat)
 case atStart=>exact⟨0,Nat.zero_le _,rfl,by simpa [part,Qy] using d,f⟩
 case round=>
  obtain⟨k,E,rfl,d,f⟩:=hrel;by_cases p:k<n
  ·obtain⟨B,D⟩:=d.at_ (n-1-k) (by omega);have hn:=d.Af (n-1-k) (low x k);rw[qt2 x n k p,qyq] at hn;go_wp2;exact⟨⟨k+1,by omega,by go_num,hn,f.setCell (Nat.le_refl _) _⟩,by simp[intOf];omega⟩
  ·obtain rfl:k=n:=by omega
   go_wp2;go_ret;refine⟨_,_,rfl,?_,f⟩;simpa [part] using d
theorem qlm (l:List UInt8)(a:Nat):l.foldl (λa b=>256*a+b.toNat) a=a*256 ^ l.length+Qw l:=by
 induction l generalizing a with
 |nil=>simp[Qw]
 |cons b l ih=>
  unfold Qw;rw[List.foldl_cons,List.foldl_cons,ih,ih (256*0+b.toNat),List.length_cons,Nat.pow_succ,Nat.add_mul,Nat.add_mul];have e:256*a*256 ^ l.length=a*(256 ^ l.length*256):=by rw[Nat.mul_comm 256 a,Nat.mul_assoc,Nat.mul_comm 256]
  omega
theorem qln (b:UInt8)(l:List UInt8):Qw (b::l)=b.toNat*256 ^ l.length+Qw l:=by
 have h:=qlm l (256*0+b.toNat);have e:(256*0+b.toNat)*256 ^ l.length=b.toNat*256 ^ l.length:=by rw[Nat.mul_zero,Nat.zero_add]
 rw[e] at h;exact h
theorem qt3 (u k:Nat):(low (u:Int) k).toNat=u / 256 ^ k % 256:=by
 unfold low;have e:((u:Int) / 2 ^ (8*k) % 256)=((u / 256 ^ k % 256:Nat):Int):=by
  rw[show (256:Nat) ^ k=2 ^ (8*k) by rw[Nat.pow_mul],Int.natCast_emod,Int.natCast_ediv,Int.natCast_pow];rfl
 rw[e,Int.toNat_natCast,UInt8.toNat_ofNat'];omega
theorem qf0 (u k:Nat):Qw (Qy (u:Int) k)=u % 256 ^ k:=by
 induction k with
 |zero=>simp[Qy,Qw,Nat.mod_one]
 |succ k ih=>
  rw[Qy,qln,Xf,ih,qt3,Nat.mod_pow_succ,Nat.mul_comm];omega
structure Kd where
 obj:Int
 kind:Int
 off:Int
def Kd.may (k:Kd):Bool:=decide ((0<=k.obj/\k.obj<=2147483647)/\(0<=k.kind/\k.kind<=255)/\0<=k.off/\k.off<=2147483647)
def Kd.less (a b:Kd):Bool:=if a.obj=b.obj then if a.kind=b.kind then decide (a.off<b.off) else decide (a.kind<b.kind) else decide (a.obj<b.obj)
def Kd.bytes (k:Kd):List UInt8:=Qy k.obj 4++(Qy k.kind 1++Qy k.off 4)
theorem Kd.Xv (k:Kd):k.bytes.length=9:=by simp[Kd.bytes,Xf]
theorem q4v (x:Int)(m:Nat)(h0:0<=x)(h1:x<(256 ^ m:Nat)):(Qw (Qy x m):Int)=x:=by
 obtain⟨u,rfl⟩:=Int.eq_ofNat_of_zero_le h0;rw[qf0,Nat.mod_eq_of_lt (by omega)]
theorem Kd.total (a b:Kd):(a.less b=true/\b.less a=false/\a≠b)\/(a.less b=false/\b.less a=true/\a≠b)\/(a.less b=false/\b.less a=false/\a=b):=by
 obtain⟨o,k,f⟩:=a;obtain⟨p,m,e⟩:=b;unfold Kd.less;simp only[Kd.mk.injEq,ne_eq];by_cases h1:o=p
 ·by_cases h2:k=m
  ·subst h1;subst h2;by_cases d:f=e
   ·subst d;simp
   ·rcases Int.lt_or_gt_of_ne d with h|h
    ·left;simp[d,h];omega
    ·right;left;simp[d,h];omega
  ·subst h1;rcases Int.lt_or_gt_of_ne h2 with h|h
   ·left;simp[h2,Ne.symm h2,h];omega
   ·right;left;simp[h2,Ne.symm h2,h];omega
 ·rcases Int.lt_or_gt_of_ne h1 with h|h
  ·left;simp[h1,Ne.symm h1,h];omega
  ·right;left;simp[h1,Ne.symm h1,h];omega
theorem Kd.J8 (a b:Kd):a.less b=true↔a.obj<b.obj\/(a.obj=b.obj/\(a.kind<b.kind\/(a.kind=b.kind/\a.off<b.off))):=by
 unfold Kd.less;by_cases h1:a.obj=b.obj
 ·by_cases h2:a.kind=b.kind
  ·rw[if_pos h1,if_pos h2,decide_eq_true_iff];omega
  ·rw[if_pos h1,if_neg h2,decide_eq_true_iff];omega
 ·rw[if_neg h1,decide_eq_true_iff];omega
def Kd.same (a b:Kd):Bool:=decide (a.obj=b.obj/\a.kind=b.kind/\a.off=b.off)
theorem Kd.same_iff (a b:Kd):a.same b=true↔a.obj=b.obj/\a.kind=b.kind/\a.off=b.off:=decide_eq_true_iff
theorem Kd.Ba (k:Kd):k.may=true↔(0<=k.obj/\k.obj<=2147483647)/\(0<=k.kind/\k.kind<=255)/\0<=k.off/\k.off<=2147483647:=decide_eq_true_iff
theorem Kd.trans (a b c:Kd)(h1:a.less b=true)(h2:b.less c=true):a.less c=true:=by
 rw[Kd.J8] at *;omega
theorem q4w (A:Option Addr)(k c:Nat)(f:List (List UInt8))(w:World)(h:Parts w A k c f)(Y:tot f k<=35184372088832) :
  Calls Tryz.prog 177 #[.slice A k c] w λe R=>∃D y E,e=.returned (.slice D y E)/\Own R w.1.size 5 D y E (cat f k)/\Below w.1.size w R:=by
 have W:k<=c:=h.2.1;have hm:c<=maxLen:=h.2.2.1;unfold maxLen at hm;have M:=Lib.hid h.len;go_enter Tryz.func177,Tryz.ntmps177
 go_wp2;go_loop [3,11] (λs i=>∃j:Nat,j<=k/\i=.int .i64 j/\s=.int .i64 (tot f j:Nat)) (λ_ i=>k-(intOf i).toNat)
 case atStart=>exact⟨0,Nat.zero_le _,rfl,by rw[qs8];rfl⟩
 case round=>
  obtain⟨j,Z,rfl,rfl⟩:=hrel;by_cases Q:j<k
  ·obtain⟨U,B,n,d,rfl,I,F,K⟩:=h.cell Q;have G:=qvl f (j+1) k (by omega);have hn:=qio f j (by rw[M.out];omega);rw[K.len] at hn;have T:=Lib.hid hn;rw[hn] at G;clear hn;go_wp2;exact⟨⟨j+1,by omega,by go_num,by rw[T.out];go_num⟩,by simp[intOf];omega⟩
  ·obtain rfl:j=k:=by omega
   go_wp2_with (at_make;refine qei _ Ig rfl _ _ rfl _ _ (tot f j) rfl rfl (by omega) ?_)
   intro w1 H O;go_wp2;go_loopw [6,24] (λs i wr=>∃(q:Nat) (D:Option Addr) (y E:Nat),q<=j/\i=.int .i64 q/\s=.slice D y E/\Own wr w.1.size 5 D y E (cat f q)/\Below w.1.size w wr) (λ_ i _=>j-(intOf i).toNat)
   case atStart=>exact⟨0,_,_,_,Nat.zero_le _,rfl,rfl,by rw[qs7];exact H,O⟩
   case round=>
    obtain⟨q,D,y,E,hq,rfl,rfl,m,u⟩:=hrel;by_cases J:q<j
    ·have G:=qvl f (q+1) j (by omega);have hn:=qio f q (by rw[M.out];omega);obtain⟨U,B,n,d,rfl,I,F,K⟩:=(h.below u).cell J;rw[K.len,show tot f q=y from m.len] at hn;rw[hn] at G;clear hn;go_wp2_with (at_builtin;refine q97 _ Ig rfl _ _ rfl w.1.size D y E _ rfl m B n d _ rfl K (by omega) u.size ?_)
     intro X c2 w2 p P;rw[<-qin f q (by rw[M.out];omega)] at p;go_wp2;exact⟨⟨q+1,_,_,_,by omega,by go_num,rfl,p,u.trans P⟩,by simp[intOf];omega⟩
    ·obtain rfl:q=j:=by omega
     go_wp2;go_ret;exact⟨_,_,_,rfl,m,u⟩
def Aa (l:List UInt8)(x n:Int):List UInt8:=if 1<=n/\n<=8 then l++Qy x n.toNat else l
theorem q79 (A:Option Addr)(k c:Nat)(l:List UInt8)(x n:Int)(w:World)(h:Sl w A k c l)(P:k<=17592186044416) :
  Calls Tryz.prog 180 #[.slice A k c,.int .i64 x,.int .i64 n] w λe J=>∃B H E,e=.returned (.slice B H E)/\Own J w.1.size 5 B H E (Aa l x n)/\Below w.1.size w J:=by
 have G:=h.len;have y:=Lib.hid G;clear G;by_cases h1:1<=n
 ·by_cases F:n<=8
  ·have u:=Lib.hid (show Aa l x n=l++Qy x n.toNat from if_pos ⟨h1,F⟩);go_enter Tryz.func180,Tryz.ntmps180
   go_wp2_with (first
    |(go_at_call 178;refine (qbm x n _ h1 F).mono ?_;rintro e Q ⟨O,c1,rfl,p,m⟩)
    |(go_at_call 177;refine (q4w _ _ _ [l,Qy x n.toNat] _ (Qbd 48 (h.below m) p.sl) (by rw[Qc0,Xf,y.out];omega)).mono ?_;rintro e K ⟨D,I,c2,rfl,d,f⟩))
   go_ret;rw[Qcr,<-u.out] at d;have M:=m.size;exact⟨_,_,_,rfl,d.less (by simp;omega),m.trans (((Below.refl _ _).alloc M _).trans (f.mono (by simp;omega)))⟩
  ·have u:=Lib.hid (show Aa l x n=l from if_neg (by omega));go_enter Tryz.func180,Tryz.ntmps180
   go_wp2_with (go_at_call 177;refine (q4w _ _ _ [l] _ (Cb 48 h) (by rw[Qan,y.out];omega)).mono ?_;rintro e K ⟨D,I,c2,rfl,d,f⟩)
   go_ret;rw[Qag] at d;rw[u.out];exact⟨_,_,_,rfl,d.less (by simp),(Qk).trans (f.mono (by simp))⟩
 ·have u:=Lib.hid (show Aa l x n=l from if_neg (by omega));go_enter Tryz.func180,Tryz.ntmps180
  go_wp2_with (go_at_call 177;refine (q4w _ _ _ [l] _ (Cb 48 h) (by rw[Qan,y.out];omega)).mono ?_;rintro e K ⟨D,I,c2,rfl,d,f⟩)
  go_ret;rw[Qag] at d;rw[u.out];exact⟨_,_,_,rfl,d.less (by simp),(Qk).trans (f.mono (by simp))⟩
theorem Sl.one {w:World}{A:Option Addr}{n c:Nat}{l:List UInt8}(h:Sl w A n c l){k:Nat}(hk:k<n):∃d,A=some d/\Sl w (some (d.add k)) 1 (c-k) [UInt8.ofNat (Ku l k)]:=by
 obtain⟨d,rfl,f,p⟩:=h.cell hk;refine⟨d,rfl,⟨rfl,by have:=h.cap;omega,by have:=h.max;omega,λj u m=>?_⟩⟩;rcases j with _|j
 ·refine⟨_,rfl,by rw[Ls];exact f,?_⟩;rw[qim,Nat.add_zero,p];have f:=q96 l k;have e:u=bv (UInt8.ofNat (Ku l k)):=by simpa using m.symm
  rw[e];unfold bv;rw[UInt8.toNat_ofNat',Nat.mod_eq_of_lt (by omega)]
 ·simp at m
