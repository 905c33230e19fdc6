/- Plain facts about a number shifted by a byte and a byte laid under it -/
import Derived.Test.YthkfkhejjmhomaaGreatDoorEs1
import Derived.Maps.RangeRun
import Derived.Maps.Keyed
import Derived.Lib.SlBytesConst
namespace Go.Proofs.YthkfkhejjmhomaaGreatDoor
open Go Go.RowKit Go.Proofs
set_option maxHeartbeats 400000
theorem qae (a:Nat)(d:a<9223372036854775808):(BitVec.ofInt 64 (a:Int)).toNat=a:=by
 rw[BitVec.ofInt_natCast,BitVec.toNat_ofNat];exact Nat.mod_eq_of_lt (by omega)
theorem qi5 (a b:Nat)(d:b<256):a*256 ||| b=a*256+b:=by
 have h:=Nat.two_pow_add_eq_or_of_lt (i:=8) (b:=b) (by omega) a;rw[show (2:Nat) ^ 8=256 from rfl] at h;rw[Nat.mul_comm];exact h.symm
theorem qwu (a b:Nat)(f:a<36028797018963968)(d:b<256):bits .or .i64 ((a:Int)*256) (b:Int)=((256*a+b:Nat):Int):=by
 show IntKind.i64.wrap ((BitVec.ofInt 64 ((a:Int)*256) ||| BitVec.ofInt 64 (b:Int)).toNat:Int)=_;rw[show ((a:Int)*256)=((a*256:Nat):Int) by omega,BitVec.toNat_or,qae _ (by omega),qae _ (by omega),qi5 _ _ d,IntWalk.i64_in _ (by omega)];omega
def Za (l:List UInt8):Nat:=l.foldl (λa b=>256*a+b.toNat) 0
theorem qfk (l:List UInt8)(b:UInt8):Za (l++[b])=256*Za l+b.toNat:=by simp[Za]
theorem q80 (l:List UInt8):Za l<256 ^ l.length:=by
 suffices h:∀n (l:List UInt8),l.length=n->Za l<256 ^ n from h _ l rfl
 intro n;induction n with
 |zero=>intro l f;rw[List.eq_nil_of_length_eq_zero f];simp[Za]
 |succ n ih=>
  intro l f;have d:l≠[]:=by intro e;rw[e] at f;simp at f
  have hd:=List.dropLast_concat_getLast d;have h1:=ih l.dropLast (by rw[List.length_dropLast];omega);have h2:=(l.getLast d).toNat_lt;rw[<-hd,qfk,Nat.pow_succ];omega
theorem qoz (l:List UInt8)(k:Nat)(h:k<l.length):Za (l.take (k+1))=256*Za (l.take k)+Yy l k:=by
 rw[qf2 l k h,qfk];have:=q6m l k;simp;omega
theorem q81 (A:Option Addr)(n c:Nat)(l:List UInt8)(w:World)(h:Sl w A n c l)(B:n<=7) :
  Calls Tryz.prog 220 #[.slice A n c] w λe u=>e=.returned (.int .i64 (Za l))/\w=u:=by
 have E:=h.cap;have hm:=h.max;unfold maxLen at hm;go_enter Tryz.func220,Tryz.ntmps220
 go_wp2;go_loop [3,8] (λx i=>∃k:Nat,k<=n/\i=.int .i64 k/\x=.int .i64 (Za (l.take k))) (λ_ i=>n-(intOf i).toNat)
 case atStart=>exact⟨0,Nat.zero_le _,rfl,rfl⟩
 case round=>
  obtain⟨k,F,rfl,rfl⟩:=hrel;by_cases f:k<n
  ·obtain⟨y,rfl,D,d⟩:=h.cell f;have p:=q6m l k;have m:Za (l.take k)<36028797018963968:=by
    have h1:=q80 (l.take k);have h2:(256:Nat) ^ (l.take k).length<=256 ^ 6:=Nat.pow_le_pow_right (by omega) (by rw[List.length_take];omega);omega
   go_wp2;refine⟨⟨k+1,by omega,by go_num,?_⟩,by simp[intOf];omega⟩;have G:=h.len;rw[qoz _ _ (by omega),<-qwu _ _ m (by omega)]
  ·go_wp2;go_ret;exact⟨q9z (by rw[List.take_of_length_le (by have:=h.len;omega)]),rfl⟩
def low (x:Int)(i:Nat):UInt8:=UInt8.ofNat (x / 2 ^ (8*i) % 256).toNat
def Zc (x:Int):Nat->List UInt8
 |0=>[]
 |k+1=>low x k::Zc x k
theorem Ya (x:Int)(k:Nat):(Zc x k).length=k:=by induction k with
 |zero=>rfl
 |succ k ih=>simp[Zc,ih]
def part (x:Int)(n k:Nat):List UInt8:=List.replicate (n-k) 0++Zc x k
theorem qtj (x:Int)(n k:Nat)(h:k<n):(part x n k).set (n-1-k) (low x k)=part x n (k+1):=by
 unfold part;have e:n-k=n-(k+1)+1:=by omega
 rw[e,List.replicate_succ',List.append_assoc,List.set_append_right _ _ (by simp;omega)];simp[Zc,show n-1-k-(n-(k+1))=0 by omega]
theorem qyo (x:Int)(k:Nat):bv (low x k)=.int .u8 (x / 2 ^ (8*k) % 256):=by
 unfold bv low;rw[UInt8.toNat_ofNat'];congr 1
 omega
theorem qc5 (x m:Int)(w:World)(h1:1<=m)(y:m<=8) :
  Calls Tryz.prog 178 #[.int .i64 x,.int .i64 m] w λe u=>∃A c,e=.returned (.slice A m.toNat c)/\Own u w.1.size 5 A m.toNat c (Zc x m.toNat)/\Below w.1.size w u:=by
 obtain⟨n,rfl⟩:=Int.eq_ofNat_of_zero_le (show 0<=m by omega);rw[Int.toNat_natCast];go_enter Tryz.func178,Tryz.ntmps178
 go_wp2_with (at_make;refine qf4 _ Az rfl _ _ rfl _ _ n rfl rfl (by omega) ?_)
 intro F d f;go_wp2;go_loopw [11] (λi wr=>∃k:Nat,k<=n/\i=.int .i64 k/\Own wr w.1.size 5 (some ⟨w.1.size,0,none⟩) n n (part x n k)/\Below w.1.size w wr) (λi _=>n-(intOf i).toNat)
 case atStart=>exact⟨0,Nat.zero_le _,rfl,by simpa [part,Zc] using d,f⟩
 case round=>
  obtain⟨k,E,rfl,d,f⟩:=hrel;by_cases p:k<n
  ·obtain⟨B,D⟩:=d.at_ (n-1-k) (by omega);have hn:=d.Uj (n-1-k) (low x k);rw[qtj x n k p,qyo] at hn;go_wp2;exact⟨⟨k+1,by omega,by go_num,hn,f.setCell (Nat.le_refl _) _⟩,by simp[intOf];omega⟩
  ·obtain rfl:k=n:=by omega
   go_wp2;go_ret;refine⟨_,_,rfl,?_,f⟩;simpa [part] using d
theorem qma (l:List UInt8)(a:Nat):l.foldl (λa b=>256*a+b.toNat) a=a*256 ^ l.length+Za l:=by
 induction l generalizing a with
 |nil=>simp[Za]
 |cons b l ih=>
  unfold Za;rw[List.foldl_cons,List.foldl_cons,ih,ih (256*0+b.toNat),List.length_cons,Nat.pow_succ,Nat.add_mul,Nat.add_mul];have e:256*a*256 ^ l.length=a*(256 ^ l.length*256):=by rw[Nat.mul_comm 256 a,Nat.mul_assoc,Nat.mul_comm 256]
  omega
theorem qmb (b:UInt8)(l:List UInt8):Za (b::l)=b.toNat*256 ^ l.length+Za l:=by
 have h:=qma l (256*0+b.toNat);have e:(256*0+b.toNat)*256 ^ l.length=b.toNat*256 ^ l.length:=by rw[Nat.mul_zero,Nat.zero_add]
 rw[e] at h;exact h
theorem qtk (u k:Nat):(low (u:Int) k).toNat=u / 256 ^ k % 256:=by
 unfold low;have e:((u:Int) / 2 ^ (8*k) % 256)=((u / 256 ^ k % 256:Nat):Int):=by
  rw[show (256:Nat) ^ k=2 ^ (8*k) by rw[Nat.pow_mul],Int.natCast_emod,Int.natCast_ediv,Int.natCast_pow];rfl
 rw[e,Int.toNat_natCast,UInt8.toNat_ofNat'];omega
theorem qp0 (u k:Nat):Za (Zc (u:Int) k)=u % 256 ^ k:=by
 induction k with
 |zero=>simp[Zc,Za,Nat.mod_one]
 |succ k ih=>
  rw[Zc,qmb,Ya,ih,qtk,Nat.mod_pow_succ,Nat.mul_comm];omega
structure Kd where
 obj:Int
 kind:Int
 off:Int
def Kd.may (k:Kd):Bool:=decide ((0<=k.obj/\k.obj<=2147483647)/\(0<=k.kind/\k.kind<=255)/\0<=k.off/\k.off<=2147483647)
def Kd.less (a b:Kd):Bool:=if a.obj=b.obj then if a.kind=b.kind then decide (a.off<b.off) else decide (a.kind<b.kind) else decide (a.obj<b.obj)
def Kd.bytes (k:Kd):List UInt8:=Zc k.obj 4++(Zc k.kind 1++Zc k.off 4)
theorem Kd.Xu (k:Kd):k.bytes.length=9:=by simp[Kd.bytes,Ya]
theorem q9e (x:Int)(m:Nat)(h0:0<=x)(h1:x<(256 ^ m:Nat)):(Za (Zc x m):Int)=x:=by
 obtain⟨u,rfl⟩:=Int.eq_ofNat_of_zero_le h0;rw[qp0,Nat.mod_eq_of_lt (by omega)]
theorem Kd.total (a b:Kd):(a.less b=true/\b.less a=false/\a≠b)\/(a.less b=false/\b.less a=true/\a≠b)\/(a.less b=false/\b.less a=false/\a=b):=by
 obtain⟨o,k,f⟩:=a;obtain⟨u,p,m⟩:=b;unfold Kd.less;simp only[Kd.mk.injEq,ne_eq];by_cases h1:o=u
 ·by_cases h2:k=p
  ·subst h1;subst h2;by_cases d:f=m
   ·subst d;simp
   ·rcases Int.lt_or_gt_of_ne d with h|h
    ·left;simp[d,h];omega
    ·right;left;simp[d,h];omega
  ·subst h1;rcases Int.lt_or_gt_of_ne h2 with h|h
   ·left;simp[h2,Ne.symm h2,h];omega
   ·right;left;simp[h2,Ne.symm h2,h];omega
 ·rcases Int.lt_or_gt_of_ne h1 with h|h
  ·left;simp[h1,Ne.symm h1,h];omega
  ·right;left;simp[h1,Ne.symm h1,h];omega
theorem Kd.Qac (a b:Kd):a.less b=true↔a.obj<b.obj\/(a.obj=b.obj/\(a.kind<b.kind\/(a.kind=b.kind/\a.off<b.off))):=by
 unfold Kd.less;by_cases h1:a.obj=b.obj
 ·by_cases h2:a.kind=b.kind
  ·rw[if_pos h1,if_pos h2,decide_eq_true_iff];omega
  ·rw[if_pos h1,if_neg h2,decide_eq_true_iff];omega
 ·rw[if_neg h1,decide_eq_true_iff];omega
def Kd.same (a b:Kd):Bool:=decide (a.obj=b.obj/\a.kind=b.kind/\a.off=b.off)
theorem Kd.same_iff (a b:Kd):a.same b=true↔a.obj=b.obj/\a.kind=b.kind/\a.off=b.off:=decide_eq_true_iff
theorem Kd.Qaw (k:Kd):k.may=true↔(0<=k.obj/\k.obj<=2147483647)/\(0<=k.kind/\k.kind<=255)/\0<=k.off/\k.off<=2147483647:=decide_eq_true_iff
theorem Kd.trans (a b c:Kd)(h1:a.less b=true)(h2:b.less c=true):a.less c=true:=by
 rw[Kd.Qac] at *;omega
theorem q5h (A:Option Addr)(k c:Nat)(f:List (List UInt8))(w:World)(h:Parts w A k c f)(Z:tot f k<=35184372088832) :
  Calls Tryz.prog 177 #[.slice A k c] w λe T=>∃D y E,e=.returned (.slice D y E)/\Own T w.1.size 5 D y E (cat f k)/\Below w.1.size w T:=by
 have X:k<=c:=h.2.1;have hm:c<=maxLen:=h.2.2.1;unfold maxLen at hm;have M:=Lib.hid h.len;go_enter Tryz.func177,Tryz.ntmps177
 go_wp2;go_loop [3,11] (λs i=>∃j:Nat,j<=k/\i=.int .i64 j/\s=.int .i64 (tot f j:Nat)) (λ_ i=>k-(intOf i).toNat)
 case atStart=>exact⟨0,Nat.zero_le _,rfl,by rw[qsu];rfl⟩
 case round=>
  obtain⟨j,hj,rfl,rfl⟩:=hrel;by_cases R:j<k
  ·obtain⟨W,B,n,d,rfl,I,F,K⟩:=h.cell R;have G:=qvr f (j+1) k (by omega);have hn:=qjm f j (by rw[M.out];omega);rw[K.len] at hn;have U:=Lib.hid hn;rw[hn] at G;clear hn;go_wp2;exact⟨⟨j+1,by omega,by go_num,by rw[U.out];go_num⟩,by simp[intOf];omega⟩
  ·obtain rfl:j=k:=by omega
   go_wp2_with (at_make;refine qf5 _ Az rfl _ _ rfl _ _ (tot f j) rfl rfl (by omega) ?_)
   intro w1 H O;go_wp2;go_loopw [6,24] (λs i wr=>∃(q:Nat) (D:Option Addr) (y E:Nat),q<=j/\i=.int .i64 q/\s=.slice D y E/\Own wr w.1.size 5 D y E (cat f q)/\Below w.1.size w wr) (λ_ i _=>j-(intOf i).toNat)
   case atStart=>exact⟨0,_,_,_,Nat.zero_le _,rfl,rfl,by rw[qst];exact H,O⟩
   case round=>
    obtain⟨q,D,y,E,hq,rfl,rfl,m,u⟩:=hrel;by_cases J:q<j
    ·have G:=qvr f (q+1) j (by omega);have hn:=qjm f q (by rw[M.out];omega);obtain⟨W,B,n,d,rfl,I,F,K⟩:=(h.below u).cell J;rw[K.len,show tot f q=y from m.len] at hn;rw[hn] at G;clear hn;go_wp2_with (at_builtin;refine qa0 _ Az rfl _ _ rfl w.1.size D y E _ rfl m B n d _ rfl K (by omega) u.size ?_)
     intro Y c2 w2 p Q;rw[<-qjl f q (by rw[M.out];omega)] at p;go_wp2;exact⟨⟨q+1,_,_,_,by omega,by go_num,rfl,p,u.trans Q⟩,by simp[intOf];omega⟩
    ·obtain rfl:q=j:=by omega
     go_wp2;go_ret;exact⟨_,_,_,rfl,m,u⟩
def Bo (l:List UInt8)(x n:Int):List UInt8:=if 1<=n/\n<=8 then l++Zc x n.toNat else l
theorem qaf (A:Option Addr)(k c:Nat)(l:List UInt8)(x n:Int)(w:World)(h:Sl w A k c l)(Q:k<=17592186044416) :
  Calls Tryz.prog 180 #[.slice A k c,.int .i64 x,.int .i64 n] w λe J=>∃B H E,e=.returned (.slice B H E)/\Own J w.1.size 5 B H E (Bo l x n)/\Below w.1.size w J:=by
 have G:=h.len;have y:=Lib.hid G;clear G;by_cases h1:1<=n
 ·by_cases F:n<=8
  ·have u:=Lib.hid (show Bo l x n=l++Zc x n.toNat from if_pos ⟨h1,F⟩);go_enter Tryz.func180,Tryz.ntmps180
   go_wp2_with (first
    |(go_at_call 178;refine (qc5 x n _ h1 F).mono ?_;rintro e R ⟨O,c1,rfl,p,m⟩)
    |(go_at_call 177;refine (q5h _ _ _ [l,Zc x n.toNat] _ (Qbw 48 (h.below m) p.sl) (by rw[Qc3,Ya,y.out];omega)).mono ?_;rintro e K ⟨D,I,c2,rfl,d,f⟩))
   go_ret;rw[Qcw,<-u.out] at d;have M:=m.size;exact⟨_,_,_,rfl,d.less (by simp;omega),m.trans (((Below.refl _ _).alloc M _).trans (f.mono (by simp;omega)))⟩
  ·have u:=Lib.hid (show Bo l x n=l from if_neg (by omega));go_enter Tryz.func180,Tryz.ntmps180
   go_wp2_with (go_at_call 177;refine (q5h _ _ _ [l] _ (Bj 48 h) (by rw[Qa2,y.out];omega)).mono ?_;rintro e K ⟨D,I,c2,rfl,d,f⟩)
   go_ret;rw[Qar] at d;rw[u.out];exact⟨_,_,_,rfl,d.less (by simp),(Qn).trans (f.mono (by simp))⟩
 ·have u:=Lib.hid (show Bo l x n=l from if_neg (by omega));go_enter Tryz.func180,Tryz.ntmps180
  go_wp2_with (go_at_call 177;refine (q5h _ _ _ [l] _ (Bj 48 h) (by rw[Qa2,y.out];omega)).mono ?_;rintro e K ⟨D,I,c2,rfl,d,f⟩)
  go_ret;rw[Qar] at d;rw[u.out];exact⟨_,_,_,rfl,d.less (by simp),(Qn).trans (f.mono (by simp))⟩
section
open Go.ChangeMaps (setBlock)
def kI (e:MapEntry):Int:=match e.key with|.int _ z=>z|_=>0
def Zg (s:Int):List MapEntry->Option Value
 |[]=>none
 |e::r=>if kI e=s then some e.val else Zg s r
def Zv (s:Int)(v:Value)(c:Nat):List MapEntry->List MapEntry
 |[]=>[{ key:=.int .i64 s,val:=v,born:=c }]
 |e::r=>if kI e=s then { e with key:=.int .i64 s,val:=v }::r else e::Zv s v c r
def Xp (s:Int):List MapEntry->List MapEntry
 |[]=>[]
 |e::r=>if kI e=s then r else e::Xp s r
structure Un (l:List MapEntry)(clock:Nat):Prop where
 key:∀e∈l,e.key=.int .i64 (kI e)
 one:(l.map kI).Nodup
 born:(l.map (·.born)).Nodup
 clock:∀e∈l,e.born<clock
theorem Qcd (s:Int)(v:Value)(c:Nat):kI { key:=.int .i64 s,val:=v,born:=c }=s:=rfl
theorem qdv {s:Int}{v:Value}:∀{l:List MapEntry},Zg s l=some v->∃e∈l,kI e=s/\e.val=v
 |[],h=>by cases h
 |e::r,h=>by
  unfold Zg at h;split at h
  ·exact⟨e,by simp,by assumption,by simpa using h⟩
  ·obtain⟨x,d,h2⟩:=qdv h;exact⟨x,by simp[d],h2⟩
theorem qfl {s:Int}:∀{l:List MapEntry},Zg s l=none->∀e∈l,kI e≠s
 |[],_,e,he=>by cases he
 |x::r,h,e,he=>by
  unfold Zg at h;split at h
  ·cases h
  ·rcases List.mem_cons.1 he with rfl|h2
   ·assumption
   ·exact qfl h e h2
theorem q45 {l:List MapEntry}(hn:(l.map kI).Nodup){e:MapEntry}(d:e∈l):Zg (kI e) l=some e.val:=by
 induction l with
 |nil=>cases d
 |cons x r ih=>
  unfold Zg;rw[List.map_cons,List.nodup_cons] at hn;rcases List.mem_cons.1 d with rfl|h2
  ·simp
  ·rw[if_neg (λh=>hn.1 (by rw[h];exact List.mem_map.2 ⟨e,h2,rfl⟩))];exact ih hn.2 h2
theorem q9f (s:Int)(v:Value)(c:Nat)(z:Int):∀l:List MapEntry,Zg z (Zv s v c l)=if z=s then some v else Zg z l
 |[]=>by
  unfold Zv Zg;rw[Qcd];by_cases h:s=z
  ·simp[h]
  ·have:¬z=s:=λe=>h e.symm
   simp[h,this,Zg]
 |e::r=>by
  unfold Zv;by_cases h:kI e=s
  ·rw[if_pos h];by_cases d:s=z
   ·subst d;simp[Zg,kI]
   ·have f:¬z=s:=λe=>d e.symm
    have m:¬kI e=z:=λe=>d (h.symm.trans e)
    have p:¬kI { e with key:=.int .i64 s,val:=v }=z:=d;unfold Zg;rw[if_neg p,if_neg f,if_neg m]
  ·rw[if_neg h];unfold Zg;rw[q9f s v c z r];by_cases d:kI e=z
   ·have:¬z=s:=λu=>h (d.trans u)
    simp[d,this]
   ·simp[d]
theorem q9g {s:Int}(z:Int):∀{l:List MapEntry},(l.map kI).Nodup->Zg z (Xp s l)=if z=s then none else Zg z l
 |[],_=>by simp[Xp,Zg]
 |e::r,hn=>by
  rw[List.map_cons,List.nodup_cons] at hn;unfold Xp;by_cases h:kI e=s
  ·rw[if_pos h];by_cases d:z=s
   ·rw[if_pos d,d]
    cases m:Zg s r with
    |none=>rfl
    |some v=>
     obtain⟨x,u,h2,_⟩:=qdv m;exact absurd (List.mem_map.2 ⟨x,u,h2.trans h.symm⟩) hn.1
   ·rw[if_neg d];have p:Zg z (e::r)=Zg z r:=by
     show (if kI e=z then some e.val else Zg z r)=_;rw[if_neg (λf=>d (f.symm.trans h))]
    exact p.symm
  ·rw[if_neg h];unfold Zg;rw[q9g z hn.2];by_cases d:kI e=z
   ·have:¬z=s:=λf=>h (d.trans f)
    simp[d,this]
   ·simp[d]
theorem qag {s:Int}{v:Value}{c:Nat}:∀{l:List MapEntry} {e:MapEntry},e∈Zv s v c l->e∈l\/(e.key=.int .i64 s/\(e.born=c\/∃x∈l,x.born=e.born))
 |[],e,h=>by
  simp[Zv] at h;subst h;exact .inr ⟨rfl,.inl rfl⟩
 |x::r,e,h=>by
  unfold Zv at h;split at h
  ·rcases List.mem_cons.1 h with rfl|h2
   ·exact .inr ⟨rfl,.inr ⟨x,by simp,rfl⟩⟩
   ·exact .inl (by simp[h2])
  ·rcases List.mem_cons.1 h with rfl|h2
   ·exact .inl (by simp)
   ·rcases qag h2 with d|⟨d,f⟩
    ·exact .inl (by simp[d])
    ·refine .inr ⟨d,f.imp id λ⟨y,p,m⟩=>⟨y,by simp[p],m⟩⟩
theorem q6c {s:Int}:∀{l:List MapEntry} {e:MapEntry},e∈Xp s l->e∈l
 |[],e,h=>by cases h
 |x::r,e,h=>by
  unfold Xp at h;split at h
  ·simp[h]
  ·rcases List.mem_cons.1 h with rfl|h2
   ·simp
   ·simp[q6c h2]
theorem qi6 {s:Int}:∀(l:List MapEntry),List.Sublist (Xp s l) l
 |[]=>.slnil
 |x::r=>by
  unfold Xp;split
  ·exact List.sublist_cons_self ..
  ·exact (qi6 r).cons_cons x
theorem qw0 {s:Int}{v:Value}{c:Nat}:∀(l:List MapEntry),(Zv s v c l).map kI=if Zg s l=none then l.map kI++[s] else l.map kI
 |[]=>by simp[Zv,Zg,kI]
 |x::r=>by
  unfold Zv Zg;by_cases h:kI x=s
  ·rw[if_pos h,if_pos h,if_neg (by simp)];simp[kI] at h ⊢;exact h.symm
  ·rw[if_neg h,if_neg h,List.map_cons,qw0 r];split<;>simp
theorem qdw {s:Int}{v:Value}{c:Nat}:∀(l:List MapEntry),(Zv s v c l).map (·.born)=if Zg s l=none then l.map (·.born)++[c] else l.map (·.born)
 |[]=>by simp[Zv,Zg]
 |x::r=>by
  unfold Zv Zg;by_cases h:kI x=s
  ·rw[if_pos h,if_pos h,if_neg (by simp)];simp
  ·rw[if_neg h,if_neg h,List.map_cons,qdw r];split<;>simp
theorem qc6 {s:Int}:∀(l:List MapEntry),(Xp s l).length=if Zg s l=none then l.length else l.length-1
 |[]=>by simp[Xp,Zg]
 |x::r=>by
  unfold Xp Zg;by_cases h:kI x=s
  ·simp[h]
  ·rw[if_neg h,if_neg h,List.length_cons,qc6 r];split
   ·simp
   ·rename_i d;have:0<r.length:=by
     rcases r with _|⟨a,b⟩
     ·exact absurd rfl d
     ·simp
    simp;omega
theorem qk2:Un [] 0:=⟨by simp,by simp,by simp,by simp⟩
theorem Un.put {l:List MapEntry}{clock:Nat}(h:Un l clock)(s:Int)(v:Value):Un (Zv s v clock l) (if Zg s l=none then clock+1 else clock):=by
 have y:∀e∈Zv s v clock l,e.born<clock+1:=λe d=>by
  rcases qag d with h2|⟨_,h2|⟨x,u,h2⟩⟩
  ·have:=h.clock e h2;omega
  ·omega
  ·have:=h.clock x u;omega
 refine⟨λe d=>?_,?_,?_,λe d=>?_⟩
 ·rcases qag d with h2|⟨h2,_⟩
  ·exact h.key e h2
  ·unfold kI;rw[h2]
 ·rw[qw0];split
  ·rename_i m;rw[List.nodup_append];refine⟨h.one,by simp,λa p b f=>?_⟩;obtain rfl:b=s:=by simpa using f
   obtain⟨e,d,rfl⟩:=List.mem_map.1 p;exact qfl m e d
  ·exact h.one
 ·rw[qdw];split
  ·rw[List.nodup_append];refine⟨h.born,by simp,λa p b f=>?_⟩;obtain rfl:b=clock:=by simpa using f
   obtain⟨e,d,rfl⟩:=List.mem_map.1 p;have:=h.clock e d;show e.born≠b;omega
  ·exact h.born
 ·by_cases m:Zg s l=none
  ·rw[if_pos m];exact y e d
  ·rw[if_neg m];have f:e.born∈(Zv s v clock l).map (·.born):=List.mem_map.2 ⟨e,d,rfl⟩;rw[qdw,if_neg m] at f;obtain⟨x,u,h2⟩:=List.mem_map.1 f;have:=h.clock x u;rw[<-h2];exact this
theorem Un.del {l:List MapEntry}{clock:Nat}(h:Un l clock)(s:Int):Un (Xp s l) clock:=
 ⟨λe d=>h.key e (q6c d),h.one.sublist ((qi6 l).map kI),h.born.sublist ((qi6 l).map _),λe d=>h.clock e (q6c d)⟩
theorem qah (s:Int):∀(l:List MapEntry) (i:Nat),(∀e∈l,e.key=.int .i64 (kI e))->
  (Instr.findNow (.int .i64) (.int .i64 s) l i=some none/\Zg s l=none/\(∀v c,Zv s v c l=l++[{ key:=.int .i64 s,val:=v,born:=c }])/\Xp s l=l)\/
  ∃j e,Instr.findNow (.int .i64) (.int .i64 s) l i=some (some (i+j,e.val))/\l[j]?=some e/\e.key=.int .i64 s/\Zg s l=some e.val/\
   (∀v c,Zv s v c l=l.modify j λe=>{ e with key:=.int .i64 s,val:=v })/\Xp s l=l.eraseIdx j
 |[],i,_=>.inl ⟨rfl,rfl,λ_ _=>rfl,rfl⟩
 |x::r,i,hk=>by
  have p:=hk x (by simp);by_cases h:kI x=s
  ·refine .inr ⟨0,x,?_,rfl,by rw[p,h],by simp[Zg,h],λv c=>by simp[Zv,h],by simp[Xp,h]⟩;rw[Instr.findNow,p,h];simp[Instr.sameNow]
  ·have u:Instr.findNow (.int .i64) (.int .i64 s) (x::r) i=Instr.findNow (.int .i64) (.int .i64 s) r (i+1):=by
    have m:(s==kI x)=false:=by rw[beq_eq_false_iff_ne];exact λe=>h e.symm
    rw[Instr.findNow,p];simp[Instr.sameNow,m]
   rcases qah s r (i+1) (λe B=>hk e (by simp[B])) with⟨h1,h2,d,f⟩|⟨j,e,h1,h2,d,f,y,A⟩
   ·exact .inl ⟨u.trans h1,by simp[Zg,h,h2],λv c=>by simp[Zv,h,d],by simp[Xp,h,f]⟩
   ·refine .inr ⟨j+1,e,by rw[u,h1];congr 3;omega,by simpa using h2,d,by simp[Zg,h,f],λv c=>by simp[Zv,h,y],by simp[Xp,h,A]⟩
section
variable {P:Program}{w:World}{t k e b clock:Nat}{l:List MapEntry}
theorem q4u (E:Un l clock)(u:P.underlying t=some (.map k e))(f:P.underlying k=some (.int .i64)){z:Value}(B:(zeroValue e).run P w=.ok z w)(m:w.1[b]?=some (.map l.toArray clock))(s:Int) :
  (Instr.lookup t (.map (some b)) (.int .i64 s) false).run P w=.ok ((Zg s l).getD z) w:=by
 have p:=λy=>MapKept.run_checkKey (P:=P) (w:=w) f (k:=.int .i64 s) rfl y 9999
 rcases qah s l 0 E.key with⟨h1,h2,_⟩|⟨j,x,h1,_,_,A,_⟩
 ·have d:=MapKept.run_findKey (P:=P) (w:=w) f h1;simp[Instr.lookup,run_underlying u,MapKept.run_getObj_map m,p,d,B,h2]
 ·have d:=MapKept.run_findKey (P:=P) (w:=w) f h1;simp[Instr.lookup,run_underlying u,MapKept.run_getObj_map m,p,d,A]
theorem q1h (E:Un l clock)(A:P.underlying t=some (.map k e))(p:P.underlying k=some (.int .i64))(d:w.1[b]?=some (.map l.toArray clock))(s:Int)(v:Value) :
  (Instr.mapUpdate t (.map (some b)) (.int .i64 s) v).run P w=.ok () (setBlock w b (.map (Zv s v clock l).toArray (if Zg s l=none then clock+1 else clock))):=by
 have y:=λB=>MapKept.run_checkKey (P:=P) (w:=w) p (k:=.int .i64 s) rfl B 9999
 rcases qah s l 0 E.key with⟨h1,h2,m,_⟩|⟨j,x,h1,G,m,D,F,_⟩
 ·have f:=MapKept.run_findKey (P:=P) (w:=w) p h1;simp[Instr.mapUpdate,run_underlying A,MapKept.run_getObj_map d,y,f,h2,m,MapKept.run_setObj_map _ d,setBlock]
 ·have f:=MapKept.run_findKey (P:=P) (w:=w) p h1;rw[Nat.zero_add] at f;have u:(Instr.keyThatStays (.int .i64 s) (.int .i64 s)).run P w=.ok (.int .i64 s) w:=by
   simp[Instr.keyThatStays,Instr.sameBits]
  simp[Instr.mapUpdate,run_underlying A,MapKept.run_getObj_map d,y,f,D,F,G,m,u,MapKept.run_setObj_map _ d,setBlock]
theorem q4v (E:Un l clock)(y:P.underlying t=some (.map k e))(m:P.underlying k=some (.int .i64))(d:w.1[b]?=some (.map l.toArray clock))(s:Int)(u ty:TypeId) :
  (Builtin.delete_ #[t,u] ty #[.map (some b),.int .i64 s]).run P w=.ok (.tuple #[]) (setBlock w b (.map (Xp s l).toArray clock)):=by
 have p:=λA=>MapKept.run_checkKey (P:=P) (w:=w) m (k:=.int .i64 s) rfl A 9999
 rcases qah s l 0 E.key with⟨h1,h2,_,B⟩|⟨j,x,h1,G,F,_,_,D⟩
 ·have f:=MapKept.run_findKey (P:=P) (w:=w) m h1;simp[Builtin.delete_,run_underlying y,MapKept.run_getObj_map d,p,f,B,MapKept.run_setObj_map _ d,setBlock]
 ·have f:=MapKept.run_findKey (P:=P) (w:=w) m h1;rw[Nat.zero_add] at f;simp[Builtin.delete_,run_underlying y,MapKept.run_getObj_map d,p,f,D,MapKept.run_setObj_map _ d,setBlock]
end
end
theorem qp1 (w:World)(e:TypeId)(fr:Nat × Nat)(l:List UInt8)(d:Array Value)(h:d.toList=l.map bv)(hm:l.length<=16777216):Sl (w.alloc (.cells d e fr)) (some ⟨w.1.size,0,none⟩) l.length l.length l:=by
 refine⟨by simp,Nat.le_refl _,by unfold maxLen;omega,λj u f=>⟨_,rfl,by simp,?_⟩⟩;rw[Addr.add_lit,Nat.zero_add,World.cell?_alloc_mark,<-f,<-h];simp
theorem Sl.one {w:World}{A:Option Addr}{n c:Nat}{l:List UInt8}(h:Sl w A n c l){k:Nat}(hk:k<n):∃d,A=some d/\Sl w (some (d.add k)) 1 (c-k) [UInt8.ofNat (Yy l k)]:=by
 obtain⟨d,rfl,f,p⟩:=h.cell hk;refine⟨d,rfl,⟨rfl,by have:=h.cap;omega,by have:=h.max;omega,λj u m=>?_⟩⟩;rcases j with _|j
 ·refine⟨_,rfl,by rw[Nl];exact f,?_⟩;rw[qjk,Nat.add_zero,p];have f:=q6m l k;have e:u=bv (UInt8.ofNat (Yy l k)):=by simpa using m.symm
  rw[e];unfold bv;rw[UInt8.toNat_ofNat',Nat.mod_eq_of_lt (by omega)]
 ·simp at m
