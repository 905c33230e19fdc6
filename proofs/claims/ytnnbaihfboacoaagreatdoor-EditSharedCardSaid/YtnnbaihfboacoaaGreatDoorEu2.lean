/- Plain facts about a number shifted by a byte and a byte laid under it -/
import Derived.Test.YtnnbaihfboacoaaGreatDoorEu1
import Derived.Maps.RangeRun
import Derived.Maps.Keyed
import Derived.Lib.SlBytesConst
namespace Go.Proofs.YtnnbaihfboacoaaGreatDoor
open Go Go.RowKit Go.Proofs
set_option maxHeartbeats 400000
theorem q9k (a:Nat)(d:a<9223372036854775808):(BitVec.ofInt 64 (a:Int)).toNat=a:=by
 rw[BitVec.ofInt_natCast,BitVec.toNat_ofNat];exact Nat.mod_eq_of_lt (by omega)
theorem qhh (a b:Nat)(d:b<256):a*256 ||| b=a*256+b:=by
 have h:=Nat.two_pow_add_eq_or_of_lt (i:=8) (b:=b) (by omega) a;rw[show (2:Nat) ^ 8=256 from rfl] at h;rw[Nat.mul_comm];exact h.symm
theorem qvo (a b:Nat)(f:a<36028797018963968)(d:b<256):bits .or .i64 ((a:Int)*256) (b:Int)=((256*a+b:Nat):Int):=by
 show IntKind.i64.wrap ((BitVec.ofInt 64 ((a:Int)*256) ||| BitVec.ofInt 64 (b:Int)).toNat:Int)=_;rw[show ((a:Int)*256)=((a*256:Nat):Int) by omega,BitVec.toNat_or,q9k _ (by omega),q9k _ (by omega),qhh _ _ d,IntWalk.i64_in _ (by omega)];omega
def Q8 (l:List UInt8):Nat:=l.foldl (λa b=>256*a+b.toNat) 0
theorem qf3 (l:List UInt8)(b:UInt8):Q8 (l++[b])=256*Q8 l+b.toNat:=by simp[Q8]
theorem q7g (l:List UInt8):Q8 l<256 ^ l.length:=by
 suffices h:∀n (l:List UInt8),l.length=n->Q8 l<256 ^ n from h _ l rfl
 intro n;induction n with
 |zero=>intro l f;rw[List.eq_nil_of_length_eq_zero f];simp[Q8]
 |succ n ih=>
  intro l f;have d:l≠[]:=by intro e;rw[e] at f;simp at f
  have hd:=List.dropLast_concat_getLast d;have h1:=ih l.dropLast (by rw[List.length_dropLast];omega);have h2:=(l.getLast d).toNat_lt;rw[<-hd,qf3,Nat.pow_succ];omega
theorem qni (l:List UInt8)(k:Nat)(h:k<l.length):Q8 (l.take (k+1))=256*Q8 (l.take k)+Wh l k:=by
 rw[qez l k h,qf3];have:=q9i l k;simp;omega
theorem q7h (A:Option Addr)(n c:Nat)(l:List UInt8)(w:World)(h:Sl w A n c l)(B:n<=7) :
  Calls Tryz.prog 172 #[.slice A n c] w λe u=>e=.returned (.int .i64 (Q8 l))/\w=u:=by
 have E:=h.cap;have hm:=h.max;unfold maxLen at hm;go_enter Tryz.func172,Tryz.ntmps172
 go_wp2;go_loop [3,8] (λx i=>∃k:Nat,k<=n/\i=.int .i64 k/\x=.int .i64 (Q8 (l.take k))) (λ_ i=>n-(intOf i).toNat)
 case atStart=>exact⟨0,Nat.zero_le _,rfl,rfl⟩
 case round=>
  obtain⟨k,F,rfl,rfl⟩:=hrel;by_cases f:k<n
  ·obtain⟨y,rfl,D,d⟩:=h.cell f;have p:=q9i l k;have m:Q8 (l.take k)<36028797018963968:=by
    have h1:=q7g (l.take k);have h2:(256:Nat) ^ (l.take k).length<=256 ^ 6:=Nat.pow_le_pow_right (by omega) (by rw[List.length_take];omega);omega
   go_wp2;refine⟨⟨k+1,by omega,by go_num,?_⟩,by simp[intOf];omega⟩;have G:=h.len;rw[qni _ _ (by omega),<-qvo _ _ m (by omega)]
  ·go_wp2;go_ret;exact⟨q9h (by rw[List.take_of_length_le (by have:=h.len;omega)]),rfl⟩
def low (x:Int)(i:Nat):UInt8:=UInt8.ofNat (x / 2 ^ (8*i) % 256).toNat
def Zc (x:Int):Nat->List UInt8
 |0=>[]
 |k+1=>low x k::Zc x k
theorem Yl (x:Int)(k:Nat):(Zc x k).length=k:=by induction k with
 |zero=>rfl
 |succ k ih=>simp[Zc,ih]
def part (x:Int)(n k:Nat):List UInt8:=List.replicate (n-k) 0++Zc x k
theorem qs9 (x:Int)(n k:Nat)(h:k<n):(part x n k).set (n-1-k) (low x k)=part x n (k+1):=by
 unfold part;have e:n-k=n-(k+1)+1:=by omega
 rw[e,List.replicate_succ',List.append_assoc,List.set_append_right _ _ (by simp;omega)];simp[Zc,show n-1-k-(n-(k+1))=0 by omega]
theorem qxg (x:Int)(k:Nat):bv (low x k)=.int .u8 (x / 2 ^ (8*k) % 256):=by
 unfold bv low;rw[UInt8.toNat_ofNat'];congr 1
 omega
theorem qbu (x m:Int)(w:World)(h1:1<=m)(y:m<=8) :
  Calls Tryz.prog 159 #[.int .i64 x,.int .i64 m] w λe u=>∃A c,e=.returned (.slice A m.toNat c)/\Own u w.1.size 5 A m.toNat c (Zc x m.toNat)/\Below w.1.size w u:=by
 obtain⟨n,rfl⟩:=Int.eq_ofNat_of_zero_le (show 0<=m by omega);rw[Int.toNat_natCast];go_enter Tryz.func159,Tryz.ntmps159
 go_wp2_with (at_make;refine qf1 _ Gy rfl _ _ rfl _ _ n rfl rfl (by omega) ?_)
 intro F d f;go_wp2;go_loopw [11] (λi wr=>∃k:Nat,k<=n/\i=.int .i64 k/\Own wr w.1.size 5 (some ⟨w.1.size,0,none⟩) n n (part x n k)/\Below w.1.size w wr) (λi _=>n-(intOf i).toNat)
 case atStart=>exact⟨0,Nat.zero_le _,rfl,by simpa [part,Zc] using d,f⟩
 case round=>
  obtain⟨k,E,rfl,d,f⟩:=hrel;by_cases p:k<n
  ·obtain⟨B,D⟩:=d.at_ (n-1-k) (by omega);have hn:=d.Vr (n-1-k) (low x k);rw[qs9 x n k p,qxg] at hn;go_wp2;exact⟨⟨k+1,by omega,by go_num,hn,f.setCell (Nat.le_refl _) _⟩,by simp[intOf];omega⟩
  ·obtain rfl:k=n:=by omega
   go_wp2;go_ret;refine⟨_,_,rfl,?_,f⟩;simpa [part] using d
theorem qlf (l:List UInt8)(a:Nat):l.foldl (λa b=>256*a+b.toNat) a=a*256 ^ l.length+Q8 l:=by
 induction l generalizing a with
 |nil=>simp[Q8]
 |cons b l ih=>
  unfold Q8;rw[List.foldl_cons,List.foldl_cons,ih,ih (256*0+b.toNat),List.length_cons,Nat.pow_succ,Nat.add_mul,Nat.add_mul];have e:256*a*256 ^ l.length=a*(256 ^ l.length*256):=by rw[Nat.mul_comm 256 a,Nat.mul_assoc,Nat.mul_comm 256]
  omega
theorem qlg (b:UInt8)(l:List UInt8):Q8 (b::l)=b.toNat*256 ^ l.length+Q8 l:=by
 have h:=qlf l (256*0+b.toNat);have e:(256*0+b.toNat)*256 ^ l.length=b.toNat*256 ^ l.length:=by rw[Nat.mul_zero,Nat.zero_add]
 rw[e] at h;exact h
theorem qsa (u k:Nat):(low (u:Int) k).toNat=u / 256 ^ k % 256:=by
 unfold low;have e:((u:Int) / 2 ^ (8*k) % 256)=((u / 256 ^ k % 256:Nat):Int):=by
  rw[show (256:Nat) ^ k=2 ^ (8*k) by rw[Nat.pow_mul],Int.natCast_emod,Int.natCast_ediv,Int.natCast_pow];rfl
 rw[e,Int.toNat_natCast,UInt8.toNat_ofNat'];omega
theorem qnj (u k:Nat):Q8 (Zc (u:Int) k)=u % 256 ^ k:=by
 induction k with
 |zero=>simp[Zc,Q8,Nat.mod_one]
 |succ k ih=>
  rw[Zc,qlg,Yl,ih,qsa,Nat.mod_pow_succ,Nat.mul_comm];omega
structure Kd where
 obj:Int
 kind:Int
 off:Int
def Kd.may (k:Kd):Bool:=decide ((0<=k.obj/\k.obj<=2147483647)/\(0<=k.kind/\k.kind<=255)/\0<=k.off/\k.off<=2147483647)
def Kd.less (a b:Kd):Bool:=if a.obj=b.obj then if a.kind=b.kind then decide (a.off<b.off) else decide (a.kind<b.kind) else decide (a.obj<b.obj)
def Kd.bytes (k:Kd):List UInt8:=Zc k.obj 4++(Zc k.kind 1++Zc k.off 4)
theorem Kd.Yb (k:Kd):k.bytes.length=9:=by simp[Kd.bytes,Yl]
theorem q8y (x:Int)(m:Nat)(h0:0<=x)(h1:x<(256 ^ m:Nat)):(Q8 (Zc x m):Int)=x:=by
 obtain⟨u,rfl⟩:=Int.eq_ofNat_of_zero_le h0;rw[qnj,Nat.mod_eq_of_lt (by omega)]
theorem Kd.total (a b:Kd):(a.less b=true/\b.less a=false/\a≠b)\/(a.less b=false/\b.less a=true/\a≠b)\/(a.less b=false/\b.less a=false/\a=b):=by
 obtain⟨o,k,f⟩:=a;obtain⟨u,p,m⟩:=b;unfold Kd.less;simp only[Kd.mk.injEq,ne_eq];by_cases h1:o=u
 ·by_cases h2:k=p
  ·subst h1;subst h2;by_cases d:f=m
   ·subst d;simp
   ·rcases Int.lt_or_gt_of_ne d with h|h
    ·left;simp[d,h];omega
    ·right;left;simp[d,h];omega
  ·subst h1;rcases Int.lt_or_gt_of_ne h2 with h|h
   ·left;simp[h2,Ne.symm h2,h];omega
   ·right;left;simp[h2,Ne.symm h2,h];omega
 ·rcases Int.lt_or_gt_of_ne h1 with h|h
  ·left;simp[h1,Ne.symm h1,h];omega
  ·right;left;simp[h1,Ne.symm h1,h];omega
theorem Kd.Gp (a b:Kd):a.less b=true↔a.obj<b.obj\/(a.obj=b.obj/\(a.kind<b.kind\/(a.kind=b.kind/\a.off<b.off))):=by
 unfold Kd.less;by_cases h1:a.obj=b.obj
 ·by_cases h2:a.kind=b.kind
  ·rw[if_pos h1,if_pos h2,decide_eq_true_iff];omega
  ·rw[if_pos h1,if_neg h2,decide_eq_true_iff];omega
 ·rw[if_neg h1,decide_eq_true_iff];omega
def Kd.same (a b:Kd):Bool:=decide (a.obj=b.obj/\a.kind=b.kind/\a.off=b.off)
theorem Kd.same_iff (a b:Kd):a.same b=true↔a.obj=b.obj/\a.kind=b.kind/\a.off=b.off:=decide_eq_true_iff
theorem Kd.Ob (k:Kd):k.may=true↔(0<=k.obj/\k.obj<=2147483647)/\(0<=k.kind/\k.kind<=255)/\0<=k.off/\k.off<=2147483647:=decide_eq_true_iff
theorem Kd.trans (a b c:Kd)(h1:a.less b=true)(h2:b.less c=true):a.less c=true:=by
 rw[Kd.Gp] at *;omega
theorem q59 (A:Option Addr)(k c:Nat)(f:List (List UInt8))(w:World)(h:Parts w A k c f)(Z:tot f k<=35184372088832) :
  Calls Tryz.prog 158 #[.slice A k c] w λe T=>∃D y E,e=.returned (.slice D y E)/\Own T w.1.size 5 D y E (cat f k)/\Below w.1.size w T:=by
 have X:k<=c:=h.2.1;have hm:c<=maxLen:=h.2.2.1;unfold maxLen at hm;have M:=Lib.hid h.len;go_enter Tryz.func158,Tryz.ntmps158
 go_wp2;go_loop [3,11] (λs i=>∃j:Nat,j<=k/\i=.int .i64 j/\s=.int .i64 (tot f j:Nat)) (λ_ i=>k-(intOf i).toNat)
 case atStart=>exact⟨0,Nat.zero_le _,rfl,by rw[qs8];rfl⟩
 case round=>
  obtain⟨j,hj,rfl,rfl⟩:=hrel;by_cases R:j<k
  ·obtain⟨W,B,n,d,rfl,I,F,K⟩:=h.cell R;have G:=quz f (j+1) k (by omega);have hn:=qj9 f j (by rw[M.out];omega);rw[K.len] at hn;have U:=Lib.hid hn;rw[hn] at G;clear hn;go_wp2;exact⟨⟨j+1,by omega,by go_num,by rw[U.out];go_num⟩,by simp[intOf];omega⟩
  ·obtain rfl:j=k:=by omega
   go_wp2_with (at_make;refine qf2 _ Gy rfl _ _ rfl _ _ (tot f j) rfl rfl (by omega) ?_)
   intro w1 H O;go_wp2;go_loopw [6,24] (λs i wr=>∃(q:Nat) (D:Option Addr) (y E:Nat),q<=j/\i=.int .i64 q/\s=.slice D y E/\Own wr w.1.size 5 D y E (cat f q)/\Below w.1.size w wr) (λ_ i _=>j-(intOf i).toNat)
   case atStart=>exact⟨0,_,_,_,Nat.zero_le _,rfl,rfl,by rw[qs7];exact H,O⟩
   case round=>
    obtain⟨q,D,y,E,hq,rfl,rfl,m,u⟩:=hrel;by_cases J:q<j
    ·have G:=quz f (q+1) j (by omega);have hn:=qj9 f q (by rw[M.out];omega);obtain⟨W,B,n,d,rfl,I,F,K⟩:=(h.below u).cell J;rw[K.len,show tot f q=y from m.len] at hn;rw[hn] at G;clear hn;go_wp2_with (at_builtin;refine q9j _ Gy rfl _ _ rfl w.1.size D y E _ rfl m B n d _ rfl K (by omega) u.size ?_)
     intro Y c2 w2 p Q;rw[<-qj8 f q (by rw[M.out];omega)] at p;go_wp2;exact⟨⟨q+1,_,_,_,by omega,by go_num,rfl,p,u.trans Q⟩,by simp[intOf];omega⟩
    ·obtain rfl:q=j:=by omega
     go_wp2;go_ret;exact⟨_,_,_,rfl,m,u⟩
def Ce (l:List UInt8)(x n:Int):List UInt8:=if 1<=n/\n<=8 then l++Zc x n.toNat else l
theorem q9l (A:Option Addr)(k c:Nat)(l:List UInt8)(x n:Int)(w:World)(h:Sl w A k c l)(Q:k<=17592186044416) :
  Calls Tryz.prog 126 #[.slice A k c,.int .i64 x,.int .i64 n] w λe J=>∃B H E,e=.returned (.slice B H E)/\Own J w.1.size 5 B H E (Ce l x n)/\Below w.1.size w J:=by
 have G:=h.len;have y:=Lib.hid G;clear G;by_cases h1:1<=n
 ·by_cases F:n<=8
  ·have u:=Lib.hid (show Ce l x n=l++Zc x n.toNat from if_pos ⟨h1,F⟩);go_enter Tryz.func126,Tryz.ntmps126
   go_wp2_with (first
    |(go_at_call 159;refine (qbu x n _ h1 F).mono ?_;rintro e R ⟨O,c1,rfl,p,m⟩)
    |(go_at_call 158;refine (q59 _ _ _ [l,Zc x n.toNat] _ (Qbi 31 (h.below m) p.sl) (by rw[Qct,Yl,y.out];omega)).mono ?_;rintro e K ⟨D,I,c2,rfl,d,f⟩))
   go_ret;rw[Qcn,<-u.out] at d;have M:=m.size;exact⟨_,_,_,rfl,d.less (by simp;omega),m.trans (((Below.refl _ _).alloc M _).trans (f.mono (by simp;omega)))⟩
  ·have u:=Lib.hid (show Ce l x n=l from if_neg (by omega));go_enter Tryz.func126,Tryz.ntmps126
   go_wp2_with (go_at_call 158;refine (q59 _ _ _ [l] _ (Cc 31 h) (by rw[Qav,y.out];omega)).mono ?_;rintro e K ⟨D,I,c2,rfl,d,f⟩)
   go_ret;rw[Qal] at d;rw[u.out];exact⟨_,_,_,rfl,d.less (by simp),(Qm).trans (f.mono (by simp))⟩
 ·have u:=Lib.hid (show Ce l x n=l from if_neg (by omega));go_enter Tryz.func126,Tryz.ntmps126
  go_wp2_with (go_at_call 158;refine (q59 _ _ _ [l] _ (Cc 31 h) (by rw[Qav,y.out];omega)).mono ?_;rintro e K ⟨D,I,c2,rfl,d,f⟩)
  go_ret;rw[Qal] at d;rw[u.out];exact⟨_,_,_,rfl,d.less (by simp),(Qm).trans (f.mono (by simp))⟩
section
open Go.ChangeMaps (setBlock)
def kI (e:MapEntry):Int:=match e.key with|.int _ z=>z|_=>0
def Zf (s:Int):List MapEntry->Option Value
 |[]=>none
 |e::r=>if kI e=s then some e.val else Zf s r
def Jy (s:Int)(v:Value)(c:Nat):List MapEntry->List MapEntry
 |[]=>[{ key:=.int .i64 s,val:=v,born:=c }]
 |e::r=>if kI e=s then { e with key:=.int .i64 s,val:=v }::r else e::Jy s v c r
def Xw (s:Int):List MapEntry->List MapEntry
 |[]=>[]
 |e::r=>if kI e=s then r else e::Xw s r
structure Vy (l:List MapEntry)(clock:Nat):Prop where
 key:∀e∈l,e.key=.int .i64 (kI e)
 one:(l.map kI).Nodup
 born:(l.map (·.born)).Nodup
 clock:∀e∈l,e.born<clock
theorem Qb1 (s:Int)(v:Value)(c:Nat):kI { key:=.int .i64 s,val:=v,born:=c }=s:=rfl
theorem q8z {s:Int}{v:Value}:∀{l:List MapEntry},Zf s l=some v->∃e∈l,kI e=s/\e.val=v
 |[],h=>by cases h
 |e::r,h=>by
  unfold Zf at h;split at h
  ·exact⟨e,by simp,by assumption,by simpa using h⟩
  ·obtain⟨x,d,h2⟩:=q8z h;exact⟨x,by simp[d],h2⟩
theorem qf4 {s:Int}:∀{l:List MapEntry},Zf s l=none->∀e∈l,kI e≠s
 |[],_,e,he=>by cases he
 |x::r,h,e,he=>by
  unfold Zf at h;split at h
  ·cases h
  ·rcases List.mem_cons.1 he with rfl|h2
   ·assumption
   ·exact qf4 h e h2
theorem q2t {l:List MapEntry}(hn:(l.map kI).Nodup){e:MapEntry}(d:e∈l):Zf (kI e) l=some e.val:=by
 induction l with
 |nil=>cases d
 |cons x r ih=>
  unfold Zf;rw[List.map_cons,List.nodup_cons] at hn;rcases List.mem_cons.1 d with rfl|h2
  ·simp
  ·rw[if_neg (λh=>hn.1 (by rw[h];exact List.mem_map.2 ⟨e,h2,rfl⟩))];exact ih hn.2 h2
theorem qdf (s:Int)(v:Value)(c:Nat)(z:Int):∀l:List MapEntry,Zf z (Jy s v c l)=if z=s then some v else Zf z l
 |[]=>by
  unfold Jy Zf;rw[Qb1];by_cases h:s=z
  ·simp[h]
  ·have:¬z=s:=λe=>h e.symm
   simp[h,this,Zf]
 |e::r=>by
  unfold Jy;by_cases h:kI e=s
  ·rw[if_pos h];by_cases d:s=z
   ·subst d;simp[Zf,kI]
   ·have f:¬z=s:=λe=>d e.symm
    have m:¬kI e=z:=λe=>d (h.symm.trans e)
    have p:¬kI { e with key:=.int .i64 s,val:=v }=z:=d;unfold Zf;rw[if_neg p,if_neg f,if_neg m]
  ·rw[if_neg h];unfold Zf;rw[qdf s v c z r];by_cases d:kI e=z
   ·have:¬z=s:=λu=>h (d.trans u)
    simp[d,this]
   ·simp[d]
theorem q90 {s:Int}(z:Int):∀{l:List MapEntry},(l.map kI).Nodup->Zf z (Xw s l)=if z=s then none else Zf z l
 |[],_=>by simp[Xw,Zf]
 |e::r,hn=>by
  rw[List.map_cons,List.nodup_cons] at hn;unfold Xw;by_cases h:kI e=s
  ·rw[if_pos h];by_cases d:z=s
   ·rw[if_pos d,d]
    cases m:Zf s r with
    |none=>rfl
    |some v=>
     obtain⟨x,u,h2,_⟩:=q8z m;exact absurd (List.mem_map.2 ⟨x,u,h2.trans h.symm⟩) hn.1
   ·rw[if_neg d];have p:Zf z (e::r)=Zf z r:=by
     show (if kI e=z then some e.val else Zf z r)=_;rw[if_neg (λf=>d (f.symm.trans h))]
    exact p.symm
  ·rw[if_neg h];unfold Zf;rw[q90 z hn.2];by_cases d:kI e=z
   ·have:¬z=s:=λf=>h (d.trans f)
    simp[d,this]
   ·simp[d]
theorem q9m {s:Int}{v:Value}{c:Nat}:∀{l:List MapEntry} {e:MapEntry},e∈Jy s v c l->e∈l\/(e.key=.int .i64 s/\(e.born=c\/∃x∈l,x.born=e.born))
 |[],e,h=>by
  simp[Jy] at h;subst h;exact .inr ⟨rfl,.inl rfl⟩
 |x::r,e,h=>by
  unfold Jy at h;split at h
  ·rcases List.mem_cons.1 h with rfl|h2
   ·exact .inr ⟨rfl,.inr ⟨x,by simp,rfl⟩⟩
   ·exact .inl (by simp[h2])
  ·rcases List.mem_cons.1 h with rfl|h2
   ·exact .inl (by simp)
   ·rcases q9m h2 with d|⟨d,f⟩
    ·exact .inl (by simp[d])
    ·refine .inr ⟨d,f.imp id λ⟨y,p,m⟩=>⟨y,by simp[p],m⟩⟩
theorem q65 {s:Int}:∀{l:List MapEntry} {e:MapEntry},e∈Xw s l->e∈l
 |[],e,h=>by cases h
 |x::r,e,h=>by
  unfold Xw at h;split at h
  ·simp[h]
  ·rcases List.mem_cons.1 h with rfl|h2
   ·simp
   ·simp[q65 h2]
theorem qhi {s:Int}:∀(l:List MapEntry),List.Sublist (Xw s l) l
 |[]=>.slnil
 |x::r=>by
  unfold Xw;split
  ·exact List.sublist_cons_self ..
  ·exact (qhi r).cons_cons x
theorem qv0 {s:Int}{v:Value}{c:Nat}:∀(l:List MapEntry),(Jy s v c l).map kI=if Zf s l=none then l.map kI++[s] else l.map kI
 |[]=>by simp[Jy,Zf,kI]
 |x::r=>by
  unfold Jy Zf;by_cases h:kI x=s
  ·rw[if_pos h,if_pos h,if_neg (by simp)];simp[kI] at h ⊢;exact h.symm
  ·rw[if_neg h,if_neg h,List.map_cons,qv0 r];split<;>simp
theorem qdg {s:Int}{v:Value}{c:Nat}:∀(l:List MapEntry),(Jy s v c l).map (·.born)=if Zf s l=none then l.map (·.born)++[c] else l.map (·.born)
 |[]=>by simp[Jy,Zf]
 |x::r=>by
  unfold Jy Zf;by_cases h:kI x=s
  ·rw[if_pos h,if_pos h,if_neg (by simp)];simp
  ·rw[if_neg h,if_neg h,List.map_cons,qdg r];split<;>simp
theorem qbv {s:Int}:∀(l:List MapEntry),(Xw s l).length=if Zf s l=none then l.length else l.length-1
 |[]=>by simp[Xw,Zf]
 |x::r=>by
  unfold Xw Zf;by_cases h:kI x=s
  ·simp[h]
  ·rw[if_neg h,if_neg h,List.length_cons,qbv r];split
   ·simp
   ·rename_i d;have:0<r.length:=by
     rcases r with _|⟨a,b⟩
     ·exact absurd rfl d
     ·simp
    simp;omega
theorem qsb:Vy [] 0:=⟨by simp,by simp,by simp,by simp⟩
theorem Vy.put {l:List MapEntry}{clock:Nat}(h:Vy l clock)(s:Int)(v:Value):Vy (Jy s v clock l) (if Zf s l=none then clock+1 else clock):=by
 have y:∀e∈Jy s v clock l,e.born<clock+1:=λe d=>by
  rcases q9m d with h2|⟨_,h2|⟨x,u,h2⟩⟩
  ·have:=h.clock e h2;omega
  ·omega
  ·have:=h.clock x u;omega
 refine⟨λe d=>?_,?_,?_,λe d=>?_⟩
 ·rcases q9m d with h2|⟨h2,_⟩
  ·exact h.key e h2
  ·unfold kI;rw[h2]
 ·rw[qv0];split
  ·rename_i m;rw[List.nodup_append];refine⟨h.one,by simp,λa p b f=>?_⟩;obtain rfl:b=s:=by simpa using f
   obtain⟨e,d,rfl⟩:=List.mem_map.1 p;exact qf4 m e d
  ·exact h.one
 ·rw[qdg];split
  ·rw[List.nodup_append];refine⟨h.born,by simp,λa p b f=>?_⟩;obtain rfl:b=clock:=by simpa using f
   obtain⟨e,d,rfl⟩:=List.mem_map.1 p;have:=h.clock e d;show e.born≠b;omega
  ·exact h.born
 ·by_cases m:Zf s l=none
  ·rw[if_pos m];exact y e d
  ·rw[if_neg m];have f:e.born∈(Jy s v clock l).map (·.born):=List.mem_map.2 ⟨e,d,rfl⟩;rw[qdg,if_neg m] at f;obtain⟨x,u,h2⟩:=List.mem_map.1 f;have:=h.clock x u;rw[<-h2];exact this
theorem Vy.del {l:List MapEntry}{clock:Nat}(h:Vy l clock)(s:Int):Vy (Xw s l) clock:=
 ⟨λe d=>h.key e (q65 d),h.one.sublist ((qhi l).map kI),h.born.sublist ((qhi l).map _),λe d=>h.clock e (q65 d)⟩
theorem q9n (s:Int):∀(l:List MapEntry) (i:Nat),(∀e∈l,e.key=.int .i64 (kI e))->
  (Instr.findNow (.int .i64) (.int .i64 s) l i=some none/\Zf s l=none/\(∀v c,Jy s v c l=l++[{ key:=.int .i64 s,val:=v,born:=c }])/\Xw s l=l)\/
  ∃j e,Instr.findNow (.int .i64) (.int .i64 s) l i=some (some (i+j,e.val))/\l[j]?=some e/\e.key=.int .i64 s/\Zf s l=some e.val/\
   (∀v c,Jy s v c l=l.modify j λe=>{ e with key:=.int .i64 s,val:=v })/\Xw s l=l.eraseIdx j
 |[],i,_=>.inl ⟨rfl,rfl,λ_ _=>rfl,rfl⟩
 |x::r,i,hk=>by
  have p:=hk x (by simp);by_cases h:kI x=s
  ·refine .inr ⟨0,x,?_,rfl,by rw[p,h],by simp[Zf,h],λv c=>by simp[Jy,h],by simp[Xw,h]⟩;rw[Instr.findNow,p,h];simp[Instr.sameNow]
  ·have u:Instr.findNow (.int .i64) (.int .i64 s) (x::r) i=Instr.findNow (.int .i64) (.int .i64 s) r (i+1):=by
    have m:(s==kI x)=false:=by rw[beq_eq_false_iff_ne];exact λe=>h e.symm
    rw[Instr.findNow,p];simp[Instr.sameNow,m]
   rcases q9n s r (i+1) (λe B=>hk e (by simp[B])) with⟨h1,h2,d,f⟩|⟨j,e,h1,h2,d,f,y,A⟩
   ·exact .inl ⟨u.trans h1,by simp[Zf,h,h2],λv c=>by simp[Jy,h,d],by simp[Xw,h,f]⟩
   ·refine .inr ⟨j+1,e,by rw[u,h1];congr 3;omega,by simpa using h2,d,by simp[Zf,h,f],λv c=>by simp[Jy,h,y],by simp[Xw,h,A]⟩
section
variable {P:Program}{w:World}{t k e b clock:Nat}{l:List MapEntry}
theorem q4k (E:Vy l clock)(u:P.underlying t=some (.map k e))(f:P.underlying k=some (.int .i64)){z:Value}(B:(zeroValue e).run P w=.ok z w)(m:w.1[b]?=some (.map l.toArray clock))(s:Int) :
  (Instr.lookup t (.map (some b)) (.int .i64 s) false).run P w=.ok ((Zf s l).getD z) w:=by
 have p:=λy=>MapKept.run_checkKey (P:=P) (w:=w) f (k:=.int .i64 s) rfl y 9999
 rcases q9n s l 0 E.key with⟨h1,h2,_⟩|⟨j,x,h1,_,_,A,_⟩
 ·have d:=MapKept.run_findKey (P:=P) (w:=w) f h1;simp[Instr.lookup,run_underlying u,MapKept.run_getObj_map m,p,d,B,h2]
 ·have d:=MapKept.run_findKey (P:=P) (w:=w) f h1;simp[Instr.lookup,run_underlying u,MapKept.run_getObj_map m,p,d,A]
theorem q2u (E:Vy l clock)(A:P.underlying t=some (.map k e))(p:P.underlying k=some (.int .i64))(d:w.1[b]?=some (.map l.toArray clock))(s:Int)(v:Value) :
  (Instr.mapUpdate t (.map (some b)) (.int .i64 s) v).run P w=.ok () (setBlock w b (.map (Jy s v clock l).toArray (if Zf s l=none then clock+1 else clock))):=by
 have y:=λB=>MapKept.run_checkKey (P:=P) (w:=w) p (k:=.int .i64 s) rfl B 9999
 rcases q9n s l 0 E.key with⟨h1,h2,m,_⟩|⟨j,x,h1,G,m,D,F,_⟩
 ·have f:=MapKept.run_findKey (P:=P) (w:=w) p h1;simp[Instr.mapUpdate,run_underlying A,MapKept.run_getObj_map d,y,f,h2,m,MapKept.run_setObj_map _ d,setBlock]
 ·have f:=MapKept.run_findKey (P:=P) (w:=w) p h1;rw[Nat.zero_add] at f;have u:(Instr.keyThatStays (.int .i64 s) (.int .i64 s)).run P w=.ok (.int .i64 s) w:=by
   simp[Instr.keyThatStays,Instr.sameBits]
  simp[Instr.mapUpdate,run_underlying A,MapKept.run_getObj_map d,y,f,D,F,G,m,u,MapKept.run_setObj_map _ d,setBlock]
theorem q4l (E:Vy l clock)(y:P.underlying t=some (.map k e))(m:P.underlying k=some (.int .i64))(d:w.1[b]?=some (.map l.toArray clock))(s:Int)(u ty:TypeId) :
  (Builtin.delete_ #[t,u] ty #[.map (some b),.int .i64 s]).run P w=.ok (.tuple #[]) (setBlock w b (.map (Xw s l).toArray clock)):=by
 have p:=λA=>MapKept.run_checkKey (P:=P) (w:=w) m (k:=.int .i64 s) rfl A 9999
 rcases q9n s l 0 E.key with⟨h1,h2,_,B⟩|⟨j,x,h1,G,F,_,_,D⟩
 ·have f:=MapKept.run_findKey (P:=P) (w:=w) m h1;simp[Builtin.delete_,run_underlying y,MapKept.run_getObj_map d,p,f,B,MapKept.run_setObj_map _ d,setBlock]
 ·have f:=MapKept.run_findKey (P:=P) (w:=w) m h1;rw[Nat.zero_add] at f;simp[Builtin.delete_,run_underlying y,MapKept.run_getObj_map d,p,f,D,MapKept.run_setObj_map _ d,setBlock]
end
end
theorem qvq (w:World)(e:TypeId)(f:Nat × Nat)(l:List UInt8)(d:Array Value)(h:d.toList=l.map bv)(hm:l.length<=16777216):Sl (w.alloc (.cells d e f)) (some ⟨w.1.size,0,none⟩) l.length l.length l:=by
 refine⟨by simp,Nat.le_refl _,by unfold maxLen;omega,λj u m=>⟨_,rfl,by simp,?_⟩⟩;rw[Addr.add_lit,Nat.zero_add,World.cell?_alloc_mark,<-m,<-h];simp
theorem Sl.one {w:World}{A:Option Addr}{n c:Nat}{l:List UInt8}(h:Sl w A n c l){k:Nat}(hk:k<n):∃d,A=some d/\Sl w (some (d.add k)) 1 (c-k) [UInt8.ofNat (Wh l k)]:=by
 obtain⟨d,rfl,f,p⟩:=h.cell hk;refine⟨d,rfl,⟨rfl,by have:=h.cap;omega,by have:=h.max;omega,λj u m=>?_⟩⟩;rcases j with _|j
 ·refine⟨_,rfl,by rw[q0n];exact f,?_⟩;rw[qj7,Nat.add_zero,p];have f:=q9i l k;have e:u=bv (UInt8.ofNat (Wh l k)):=by simpa using m.symm
  rw[e];unfold bv;rw[UInt8.toNat_ofNat',Nat.mod_eq_of_lt (by omega)]
 ·simp at m
