/- Plain facts about a number shifted by a byte and a byte laid under it -/
import Derived.Test.YthkfkhejjmhomaaGreatDoorDz1
import Derived.Lib.SlBytesConst
namespace Go.Proofs.YthkfkhejjmhomaaGreatDoor
open Go Go.RowKit Go.Proofs
set_option maxHeartbeats 400000
theorem Qhe (a:Nat)(d:a<9223372036854775808):(BitVec.ofInt 64 (a:Int)).toNat=a:=by
 rw[BitVec.ofInt_natCast,BitVec.toNat_ofNat];exact Nat.mod_eq_of_lt (by omega)
theorem Qpp (a b:Nat)(d:b<256):a*256 ||| b=a*256+b:=by
 have h:=Nat.two_pow_add_eq_or_of_lt (i:=8) (b:=b) (by omega) a;rw[show (2:Nat) ^ 8=256 from rfl] at h;rw[Nat.mul_comm];exact h.symm
theorem Zc5 (a b:Nat)(e:a<36028797018963968)(d:b<256):bits .or .i64 ((a:Int)*256) (b:Int)=((256*a+b:Nat):Int):=by
 show IntKind.i64.wrap ((BitVec.ofInt 64 ((a:Int)*256) ||| BitVec.ofInt 64 (b:Int)).toNat:Int)=_;rw[show ((a:Int)*256)=((a*256:Nat):Int) by omega,BitVec.toNat_or,Qhe _ (by omega),Qhe _ (by omega),Qpp _ _ d,IntWalk.i64_in _ (by omega)];omega
def Zo (l:List UInt8):Nat:=l.foldl (λa b=>256*a+b.toNat) 0
theorem Qlt (l:List UInt8)(b:UInt8):Zo (l++[b])=256*Zo l+b.toNat:=by simp[Zo]
theorem Qdr (l:List UInt8):Zo l<256 ^ l.length:=by
 suffices h:∀n (l:List UInt8),l.length=n->Zo l<256 ^ n from h _ l rfl
 intro n;induction n with
 |zero=>intro l f;rw[List.eq_nil_of_length_eq_zero f];simp[Zo]
 |succ n ih=>
  intro l f;have d:l≠[]:=by intro e;rw[e] at f;simp at f
  have hd:=List.dropLast_concat_getLast d;have h1:=ih l.dropLast (by rw[List.length_dropLast];omega);have h2:=(l.getLast d).toNat_lt;rw[<-hd,Qlt,Nat.pow_succ];omega
theorem Qwj (l:List UInt8)(k:Nat)(h:k<l.length):Zo (l.take (k+1))=256*Zo (l.take k)+Xy l k:=by
 rw[Qma l k h,Qlt];have:=Ub l k;simp;omega
theorem Qep (A:Option Addr)(n c:Nat)(l:List UInt8)(w:World)(h:Sl w A n c l)(u:n<=7) :
  Calls Tryz.prog 220 #[.slice A n c] w λe p=>e=.returned (.int .i64 (Zo l))/\w=p:=by
 have z:=h.cap;have hm:=h.max;unfold maxLen at hm;go_enter Tryz.func220,Tryz.ntmps220
 go_wp2;go_loop [3,8] (λx i=>∃k:Nat,k<=n/\i=.int .i64 k/\x=.int .i64 (Zo (l.take k))) (λ_ i=>n-(intOf i).toNat)
 case atStart=>exact⟨0,Nat.zero_le _,rfl,rfl⟩
 case round=>
  obtain⟨k,B,rfl,rfl⟩:=hrel;by_cases f:k<n
  ·obtain⟨q,rfl,y,d⟩:=h.cell f;have m:=Ub l k;have g:Zo (l.take k)<36028797018963968:=by
    have h1:=Qdr (l.take k);have h2:(256:Nat) ^ (l.take k).length<=256 ^ 6:=Nat.pow_le_pow_right (by omega) (by rw[List.length_take];omega);omega
   go_wp2;refine⟨⟨k+1,by omega,by go_num,?_⟩,by simp[intOf];omega⟩;have D:=h.len;rw[Qwj _ _ (by omega),<-Zc5 _ _ g (by omega)]
  ·go_wp2;go_ret;exact⟨Qm1 (by rw[List.take_of_length_le (by have:=h.len;omega)]),rfl⟩
def low (x:Int)(i:Nat):UInt8:=UInt8.ofNat (x / 2 ^ (8*i) % 256).toNat
def Zw (x:Int):Nat->List UInt8
 |0=>[]
 |k+1=>low x k::Zw x k
theorem Ye (x:Int)(k:Nat):(Zw x k).length=k:=by induction k with
 |zero=>rfl
 |succ k ih=>simp[Zw,ih]
def part (x:Int)(n k:Nat):List UInt8:=List.replicate (n-k) 0++Zw x k
theorem Qz5 (x:Int)(n k:Nat)(h:k<n):(part x n k).set (n-1-k) (low x k)=part x n (k+1):=by
 unfold part;have e:n-k=n-(k+1)+1:=by omega
 rw[e,List.replicate_succ',List.append_assoc,List.set_append_right _ _ (by simp;omega)];simp[Zw,show n-1-k-(n-(k+1))=0 by omega]
theorem Zd8 (x:Int)(k:Nat):bv (low x k)=.int .u8 (x / 2 ^ (8*k) % 256):=by
 unfold bv low;rw[UInt8.toNat_ofNat'];congr 1
 omega
theorem Qif (x m:Int)(w:World)(h1:1<=m)(q:m<=8) :
  Calls Tryz.prog 178 #[.int .i64 x,.int .i64 m] w λe p=>∃A c,e=.returned (.slice A m.toNat c)/\Own p w.1.size 5 A m.toNat c (Zw x m.toNat)/\Below w.1.size w p:=by
 obtain⟨n,rfl⟩:=Int.eq_ofNat_of_zero_le (show 0<=m by omega);rw[Int.toNat_natCast];go_enter Tryz.func178,Tryz.ntmps178
 go_wp2_with (at_make;refine Qmh _ T22 rfl _ _ rfl _ _ n rfl rfl (by omega) ?_)
 intro B d f;go_wp2;go_loopw [11] (λi wr=>∃k:Nat,k<=n/\i=.int .i64 k/\Own wr w.1.size 5 (some ⟨w.1.size,0,none⟩) n n (part x n k)/\Below w.1.size w wr) (λi _=>n-(intOf i).toNat)
 case atStart=>exact⟨0,Nat.zero_le _,rfl,by simpa [part,Zw] using d,f⟩
 case round=>
  obtain⟨k,z,rfl,d,f⟩:=hrel;by_cases g:k<n
  ·obtain⟨u,y⟩:=d.at_ (n-1-k) (by omega);have hn:=d.Xe (n-1-k) (low x k);rw[Qz5 x n k g,Zd8] at hn;go_wp2;exact⟨⟨k+1,by omega,by go_num,hn,f.setCell (Nat.le_refl _) _⟩,by simp[intOf];omega⟩
  ·obtain rfl:k=n:=by omega
   go_wp2;go_ret;refine⟨_,_,rfl,?_,f⟩;simpa [part] using d
theorem Qro (l:List UInt8)(a:Nat):l.foldl (λa b=>256*a+b.toNat) a=a*256 ^ l.length+Zo l:=by
 induction l generalizing a with
 |nil=>simp[Zo]
 |cons b l ih=>
  unfold Zo;rw[List.foldl_cons,List.foldl_cons,ih,ih (256*0+b.toNat),List.length_cons,Nat.pow_succ,Nat.add_mul,Nat.add_mul];have e:256*a*256 ^ l.length=a*(256 ^ l.length*256):=by rw[Nat.mul_comm 256 a,Nat.mul_assoc,Nat.mul_comm 256]
  omega
theorem Qr7 (b:UInt8)(l:List UInt8):Zo (b::l)=b.toNat*256 ^ l.length+Zo l:=by
 have h:=Qro l (256*0+b.toNat);have e:(256*0+b.toNat)*256 ^ l.length=b.toNat*256 ^ l.length:=by rw[Nat.mul_zero,Nat.zero_add]
 rw[e] at h;exact h
theorem Qzo (u k:Nat):(low (u:Int) k).toNat=u / 256 ^ k % 256:=by
 unfold low;have e:((u:Int) / 2 ^ (8*k) % 256)=((u / 256 ^ k % 256:Nat):Int):=by
  rw[show (256:Nat) ^ k=2 ^ (8*k) by rw[Nat.pow_mul],Int.natCast_emod,Int.natCast_ediv,Int.natCast_pow];rfl
 rw[e,Int.toNat_natCast,UInt8.toNat_ofNat'];omega
theorem Qls (u k:Nat):Zo (Zw (u:Int) k)=u % 256 ^ k:=by
 induction k with
 |zero=>simp[Zw,Zo,Nat.mod_one]
 |succ k ih=>
  rw[Zw,Qr7,Ye,ih,Qzo,Nat.mod_pow_succ,Nat.mul_comm];omega
structure Kd where
 obj:Int
 kind:Int
 off:Int
def Kd.may (k:Kd):Bool:=decide ((0<=k.obj/\k.obj<=2147483647)/\(0<=k.kind/\k.kind<=255)/\0<=k.off/\k.off<=2147483647)
def Kd.less (a b:Kd):Bool:=if a.obj=b.obj then if a.kind=b.kind then decide (a.off<b.off) else decide (a.kind<b.kind) else decide (a.obj<b.obj)
def Kd.bytes (k:Kd):List UInt8:=Zw k.obj 4++(Zw k.kind 1++Zw k.off 4)
theorem Kd.Jf (k:Kd):k.bytes.length=9:=by simp[Kd.bytes,Ye]
theorem Qbu (x:Int)(m:Nat)(h0:0<=x)(h1:x<(256 ^ m:Nat)):(Zo (Zw x m):Int)=x:=by
 obtain⟨u,rfl⟩:=Int.eq_ofNat_of_zero_le h0;rw[Qls,Nat.mod_eq_of_lt (by omega)]
theorem Kd.total (a b:Kd):(a.less b=true/\b.less a=false/\a≠b)\/(a.less b=false/\b.less a=true/\a≠b)\/(a.less b=false/\b.less a=false/\a=b):=by
 obtain⟨o,k,f⟩:=a;obtain⟨m,g,e⟩:=b;unfold Kd.less;simp only[Kd.mk.injEq,ne_eq];by_cases h1:o=m
 ·by_cases h2:k=g
  ·subst h1;subst h2;by_cases d:f=e
   ·subst d;simp
   ·rcases Int.lt_or_gt_of_ne d with h|h
    ·left;simp[d,h];omega
    ·right;left;simp[d,h];omega
  ·subst h1;rcases Int.lt_or_gt_of_ne h2 with h|h
   ·left;simp[h2,Ne.symm h2,h];omega
   ·right;left;simp[h2,Ne.symm h2,h];omega
 ·rcases Int.lt_or_gt_of_ne h1 with h|h
  ·left;simp[h1,Ne.symm h1,h];omega
  ·right;left;simp[h1,Ne.symm h1,h];omega
theorem Kd.Xm (a b:Kd):a.less b=true↔a.obj<b.obj\/(a.obj=b.obj/\(a.kind<b.kind\/(a.kind=b.kind/\a.off<b.off))):=by
 unfold Kd.less;by_cases h1:a.obj=b.obj
 ·by_cases h2:a.kind=b.kind
  ·rw[if_pos h1,if_pos h2,decide_eq_true_iff];omega
  ·rw[if_pos h1,if_neg h2,decide_eq_true_iff];omega
 ·rw[if_neg h1,decide_eq_true_iff];omega
def Kd.same (a b:Kd):Bool:=decide (a.obj=b.obj/\a.kind=b.kind/\a.off=b.off)
theorem Kd.same_iff (a b:Kd):a.same b=true↔a.obj=b.obj/\a.kind=b.kind/\a.off=b.off:=decide_eq_true_iff
theorem Kd.Vj (k:Kd):k.may=true↔(0<=k.obj/\k.obj<=2147483647)/\(0<=k.kind/\k.kind<=255)/\0<=k.off/\k.off<=2147483647:=decide_eq_true_iff
theorem Kd.trans (a b c:Kd)(h1:a.less b=true)(h2:b.less c=true):a.less c=true:=by
 rw[Kd.Xm] at *;omega
theorem Qbp (A:Option Addr)(k c:Nat)(f:List (List UInt8))(w:World)(h:Parts w A k c f)(U:tot f k<=35184372088832) :
  Calls Tryz.prog 177 #[.slice A k c] w λe O=>∃y u z,e=.returned (.slice y u z)/\Own O w.1.size 5 y u z (cat f k)/\Below w.1.size w O:=by
 have R:k<=c:=h.2.1;have hm:c<=maxLen:=h.2.2.1;unfold maxLen at hm;have Hl:=Lib.hid h.len;go_enter Tryz.func177,Tryz.ntmps177
 go_wp2;go_loop [3,11] (λs i=>∃j:Nat,j<=k/\i=.int .i64 j/\s=.int .i64 (tot f j:Nat)) (λ_ i=>k-(intOf i).toNat)
 case atStart=>exact⟨0,Nat.zero_le _,rfl,by rw[Zbf];rfl⟩
 case round=>
  obtain⟨j,V,rfl,rfl⟩:=hrel;by_cases M:j<k
  ·obtain⟨Q,B,n,d,rfl,G,D,I⟩:=h.cell M;have E:=Zbe f (j+1) k (by omega);have hn:=Qqi f j (by rw[Hl.out];omega);rw[I.len] at hn;have P:=Lib.hid hn;rw[hn] at E;clear hn;go_wp2;exact⟨⟨j+1,by omega,by go_num,by rw[P.out];go_num⟩,by simp[intOf];omega⟩
  ·obtain rfl:j=k:=by omega
   go_wp2_with (at_make;refine Qmi _ T22 rfl _ _ rfl _ _ (tot f j) rfl rfl (by omega) ?_)
   intro X F J;go_wp2;go_loopw [6,24] (λs i wr=>∃(q:Nat) (y:Option Addr) (u z:Nat),q<=j/\i=.int .i64 q/\s=.slice y u z/\Own wr w.1.size 5 y u z (cat f q)/\Below w.1.size w wr) (λ_ i _=>j-(intOf i).toNat)
   case atStart=>exact⟨0,_,_,_,Nat.zero_le _,rfl,rfl,by rw[Qxx];exact F,J⟩
   case round=>
    obtain⟨q,y,u,z,W,rfl,rfl,g,p⟩:=hrel;by_cases H:q<j
    ·have E:=Zbe f (q+1) j (by omega);have hn:=Qqi f q (by rw[Hl.out];omega);obtain⟨Q,B,n,d,rfl,G,D,I⟩:=(h.below p).cell H;rw[I.len,show tot f q=u from g.len] at hn;rw[hn] at E;clear hn;go_wp2_with (at_builtin;refine Qhk _ T22 rfl _ _ rfl w.1.size y u z _ rfl g B n d _ rfl I (by omega) p.size ?_)
     intro T c2 Y m K;rw[<-Qnv f q (by rw[Hl.out];omega)] at m;go_wp2;exact⟨⟨q+1,_,_,_,by omega,by go_num,rfl,m,p.trans K⟩,by simp[intOf];omega⟩
    ·obtain rfl:q=j:=by omega
     go_wp2;go_ret;exact⟨_,_,_,rfl,g,p⟩
def Qgr (l:List UInt8)(x n:Int):List UInt8:=if 1<=n/\n<=8 then l++Zw x n.toNat else l
theorem put_any (A:Option Addr)(k c:Nat)(l:List UInt8)(x n:Int)(w:World)(h:Sl w A k c l)(J:k<=17592186044416) :
  Calls Tryz.prog 180 #[.slice A k c,.int .i64 x,.int .i64 n] w λe F=>∃q D y,e=.returned (.slice q D y)/\Own F w.1.size 5 q D y (Qgr l x n)/\Below w.1.size w F:=by
 have B:=h.len;have Hl:=Lib.hid B;clear B;by_cases h1:1<=n
 ·by_cases z:n<=8
  ·have p:=Lib.hid (show Qgr l x n=l++Zw x n.toNat from if_pos ⟨h1,z⟩);go_enter Tryz.func180,Tryz.ntmps180
   go_wp2_with (first
    |(go_at_call 178;refine (Qif x n _ h1 z).mono ?_;rintro e K ⟨I,c1,rfl,m,g⟩)
    |(go_at_call 177;refine (Qbp _ _ _ [l,Zw x n.toNat] _ (Zex 48 (h.below g) m.sl) (by rw[Zgf,Ye,Hl.out];omega)).mono ?_;rintro e G ⟨u,E,c2,rfl,d,f⟩))
   go_ret;rw[Zf8,<-p.out] at d;have H:=g.size;exact⟨_,_,_,rfl,d.less (by simp;omega),g.trans (((Below.refl _ _).alloc H _).trans (f.mono (by simp;omega)))⟩
  ·have p:=Lib.hid (show Qgr l x n=l from if_neg (by omega));go_enter Tryz.func180,Tryz.ntmps180
   go_wp2_with (go_at_call 177;refine (Qbp _ _ _ [l] _ (Qji 48 h) (by rw[Zdm,Hl.out];omega)).mono ?_;rintro e G ⟨u,E,c2,rfl,d,f⟩)
   go_ret;rw[Zb4] at d;rw[p.out];exact⟨_,_,_,rfl,d.less (by simp),(Ib).trans (f.mono (by simp))⟩
 ·have p:=Lib.hid (show Qgr l x n=l from if_neg (by omega));go_enter Tryz.func180,Tryz.ntmps180
  go_wp2_with (go_at_call 177;refine (Qbp _ _ _ [l] _ (Qji 48 h) (by rw[Zdm,Hl.out];omega)).mono ?_;rintro e G ⟨u,E,c2,rfl,d,f⟩)
  go_ret;rw[Zb4] at d;rw[p.out];exact⟨_,_,_,rfl,d.less (by simp),(Ib).trans (f.mono (by simp))⟩
theorem Sl.one {w:World}{A:Option Addr}{n c:Nat}{l:List UInt8}(h:Sl w A n c l){k:Nat}(hk:k<n):∃d,A=some d/\Sl w (some (d.add k)) 1 (c-k) [UInt8.ofNat (Xy l k)]:=by
 obtain⟨d,rfl,f,m⟩:=h.cell hk;refine⟨d,rfl,⟨rfl,by have:=h.cap;omega,by have:=h.max;omega,λj u g=>?_⟩⟩;rcases j with _|j
 ·refine⟨_,rfl,by rw[Y7];exact f,?_⟩;rw[Ee,Nat.add_zero,m];have f:=Ub l k;have e:u=bv (UInt8.ofNat (Xy l k)):=by simpa using g.symm
  rw[e];unfold bv;rw[UInt8.toNat_ofNat',Nat.mod_eq_of_lt (by omega)]
 ·simp at g
