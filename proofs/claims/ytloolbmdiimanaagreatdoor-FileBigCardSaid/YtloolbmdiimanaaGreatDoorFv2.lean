/- Plain facts about a number shifted by a byte and a byte laid under it -/
import Derived.Test.YtloolbmdiimanaaGreatDoorFv1
import Derived.Maps.RangeRun
import Derived.Maps.Keyed
import Derived.Lib.SlBytesConst
namespace Go.Proofs.YtloolbmdiimanaaGreatDoor
open Go Go.RowKit Go.Proofs Tryz
set_option maxHeartbeats 400000
theorem q9y (a:Nat)(d:a<9223372036854775808):(BitVec.ofInt 64 (a:Int)).toNat=a:=by
 rw[BitVec.ofInt_natCast,BitVec.toNat_ofNat];exact Nat.mod_eq_of_lt (by omega)
theorem qhx (a b:Nat)(d:b<256):a*256 ||| b=a*256+b:=by
 have h:=Nat.two_pow_add_eq_or_of_lt (i:=8) (b:=b) (by omega) a;rw[show (2:Nat) ^ 8=256 from rfl] at h;rw[Nat.mul_comm];exact h.symm
theorem qwg (a b:Nat)(f:a<36028797018963968)(d:b<256):bits .or .i64 ((a:Int)*256) (b:Int)=((256*a+b:Nat):Int):=by
 show IntKind.i64.wrap ((BitVec.ofInt 64 ((a:Int)*256) ||| BitVec.ofInt 64 (b:Int)).toNat:Int)=_;rw[show ((a:Int)*256)=((a*256:Nat):Int) by omega,BitVec.toNat_or,q9y _ (by omega),q9y _ (by omega),qhx _ _ d,IntWalk.i64_in _ (by omega)];omega
def Qq (l:LU):Nat:=l.foldl (λa b=>256*a+b.toNat) 0
theorem qfe (l:LU)(b:UInt8):Qq (l++[b])=256*Qq l+b.toNat:=by simp[Qq]
theorem q7j (l:LU):Qq l<256 ^ l.length:=by
 suffices h:∀n (l:LU),l.length=n->Qq l<256 ^ n from h _ l rfl
 intro n;induction n with
 |zero=>intro l f;rw[BF f];simp[Qq]
 |succ n ih=>
  intro l f;have d:l≠[]:=by intro e;rw[e] at f;simp at f
  have hd:=List.dropLast_concat_getLast d;have h1:=ih l.dropLast (by rw[List.length_dropLast];omega);have h2:=(l.getLast d).toNat_lt;rw[<-hd,qfe,Nat.pow_succ];omega
theorem qo8 (l:LU)(k:Nat)(h:k<l.length):Qq (l.take (k+1))=256*Qq (l.take k)+Yb l k:=by
 rw[q9j l k h,qfe];have:=q8c l k;simp;omega
theorem q7k (A:OA)(n c:Nat)(l:LU)(w:WD)(h:Sl w A n c l)(y:n<=7) :
  Calls prog 89 #[.slice A n c] w λe p=>e=.returned (.int .i64 (Qq l))/\w=p:=by
 have D:=h.cap;have hm:=h.max;unfold maxLen at hm;go_enter func89,ntmps89
 go_wp2;go_loop [3,8] (λx i=>∃k:Nat,k<=n/\i=.int .i64 k/\x=.int .i64 (Qq (l.take k))) (λ_ i=>n-(intOf i).toNat)
 case atStart=>exact⟨0,AW _,rfl,rfl⟩
 case round=>
  obtain⟨k,E,rfl,rfl⟩:=hrel;by_cases f:k<n
  ·obtain⟨u,rfl,B,d⟩:=h.cell f;have m:=q8c l k;have g:Qq (l.take k)<36028797018963968:=by
    have h1:=q7j (l.take k);have h2:(256:Nat) ^ (l.take k).length<=256 ^ 6:=Nat.pow_le_pow_right (by omega) (by rw[AR];omega);omega
   go_wp2;refine⟨⟨k+1,by omega,by go_num,?_⟩,by simp[intOf];omega⟩;have F:=h.len;rw[qo8 _ _ (by omega),<-qwg _ _ g (by omega)]
  ·go_wp2;go_ret;exact⟨q9i (by rw[AN (by have:=h.len;omega)]),rfl⟩
def low (x:Int)(i:Nat):UInt8:=UInt8.ofNat (x / 2 ^ (8*i) % 256).toNat
def Qy (x:Int):Nat->LU
 |0=>[]
 |k+1=>low x k::Qy x k
theorem Xy (x:Int)(k:Nat):(Qy x k).length=k:=by induction k with
 |zero=>rfl
 |succ k ih=>simp[Qy,ih]
def part (x:Int)(n k:Nat):LU:=List.replicate (n-k) 0++Qy x k
theorem qst (x:Int)(n k:Nat)(h:k<n):(part x n k).set (n-1-k) (low x k)=part x n (k+1):=by
 unfold part;have e:n-k=n-(k+1)+1:=by omega
 rw[e,List.replicate_succ',AM,List.set_append_right _ _ (by simp;omega)];simp[Qy,show n-1-k-(n-(k+1))=0 by omega]
theorem qy4 (x:Int)(k:Nat):bv (low x k)=.int .u8 (x / 2 ^ (8*k) % 256):=by
 unfold bv low;rw[UInt8.toNat_ofNat'];congr 1
 omega
theorem qby (x m:Int)(w:WD)(h1:1<=m)(u:m<=8) :
  Calls prog 95 #[.int .i64 x,.int .i64 m] w λe p=>∃A c,e=.returned (.slice A m.toNat c)/\Own p w.1.size 5 A m.toNat c (Qy x m.toNat)/\Below w.1.size w p:=by
 obtain⟨n,rfl⟩:=Int.eq_ofNat_of_zero_le (show 0<=m by omega);rw[AJ];go_enter func95,ntmps95
 go_wp2_with (at_make;refine q9k _ Bv rfl _ _ rfl _ _ n rfl rfl (by omega) ?_)
 intro E d f;go_wp2;go_loopw [11] (λi wr=>∃k:Nat,k<=n/\i=.int .i64 k/\Own wr w.1.size 5 (some ⟨w.1.size,0,none⟩) n n (part x n k)/\Below w.1.size w wr) (λi _=>n-(intOf i).toNat)
 case atStart=>exact⟨0,AW _,rfl,by simpa [part,Qy] using d,f⟩
 case round=>
  obtain⟨k,D,rfl,d,f⟩:=hrel;by_cases g:k<n
  ·obtain⟨y,B⟩:=d.at_ (n-1-k) (by omega);have hn:=d.G7 (n-1-k) (low x k);rw[qst x n k g,qy4] at hn;go_wp2;exact⟨⟨k+1,by omega,by go_num,hn,f.setCell (AE _) _⟩,by simp[intOf];omega⟩
  ·obtain rfl:k=n:=by omega
   go_wp2;go_ret;refine⟨_,_,rfl,?_,f⟩;simpa [part] using d
theorem qlw (l:LU)(a:Nat):l.foldl (λa b=>256*a+b.toNat) a=a*256 ^ l.length+Qq l:=by
 induction l generalizing a with
 |nil=>simp[Qq]
 |cons b l ih=>
  unfold Qq;rw[List.foldl_cons,List.foldl_cons,ih,ih (256*0+b.toNat),AX,Nat.pow_succ,Nat.add_mul,Nat.add_mul];have e:256*a*256 ^ l.length=a*(256 ^ l.length*256):=by rw[Nat.mul_comm 256 a,Nat.mul_assoc,Nat.mul_comm 256]
  omega
theorem qlx (b:UInt8)(l:LU):Qq (b::l)=b.toNat*256 ^ l.length+Qq l:=by
 have h:=qlw l (256*0+b.toNat);have e:(256*0+b.toNat)*256 ^ l.length=b.toNat*256 ^ l.length:=by rw[Nat.mul_zero,AT]
 rw[e] at h;exact h
theorem qsu (u k:Nat):(low (u:Int) k).toNat=u / 256 ^ k % 256:=by
 unfold low;have e:((u:Int) / 2 ^ (8*k) % 256)=((u / 256 ^ k % 256:Nat):Int):=by
  rw[show (256:Nat) ^ k=2 ^ (8*k) by rw[Nat.pow_mul],Int.natCast_emod,Int.natCast_ediv,Int.natCast_pow];rfl
 rw[e,AJ,UInt8.toNat_ofNat'];omega
theorem qff (u k:Nat):Qq (Qy (u:Int) k)=u % 256 ^ k:=by
 induction k with
 |zero=>simp[Qy,Qq,Nat.mod_one]
 |succ k ih=>
  rw[Qy,qlx,Xy,ih,qsu,Nat.mod_pow_succ,Nat.mul_comm];omega
structure Kd where
 obj:Int
 kind:Int
 off:Int
def Kd.may (k:Kd):Bool:=decide ((0<=k.obj/\k.obj<=2147483647)/\(0<=k.kind/\k.kind<=255)/\0<=k.off/\k.off<=2147483647)
def Kd.less (a b:Kd):Bool:=if a.obj=b.obj then if a.kind=b.kind then decide (a.off<b.off) else decide (a.kind<b.kind) else decide (a.obj<b.obj)
def Kd.bytes (k:Kd):LU:=Qy k.obj 4++(Qy k.kind 1++Qy k.off 4)
theorem Kd.Xz (k:Kd):k.bytes.length=9:=by simp[Kd.bytes,Xy]
theorem q6o (x:Int)(m:Nat)(h0:0<=x)(h1:x<(256 ^ m:Nat)):(Qq (Qy x m):Int)=x:=by
 obtain⟨u,rfl⟩:=Int.eq_ofNat_of_zero_le h0;rw[qff,Nat.mod_eq_of_lt (by omega)]
theorem Kd.total (a b:Kd):(a.less b=true/\b.less a=false/\a≠b)\/(a.less b=false/\b.less a=true/\a≠b)\/(a.less b=false/\b.less a=false/\a=b):=by
 obtain⟨o,k,f⟩:=a;obtain⟨p,m,g⟩:=b;unfold Kd.less;simp only[Kd.mk.injEq,ne_eq];by_cases h1:o=p
 ·by_cases h2:k=m
  ·subst h1;subst h2;by_cases d:f=g
   ·subst d;simp
   ·rcases Int.lt_or_gt_of_ne d with h|h
    ·left;simp[d,h];omega
    ·right;left;simp[d,h];omega
  ·subst h1;rcases Int.lt_or_gt_of_ne h2 with h|h
   ·left;simp[h2,Ne.symm h2,h];omega
   ·right;left;simp[h2,Ne.symm h2,h];omega
 ·rcases Int.lt_or_gt_of_ne h1 with h|h
  ·left;simp[h1,Ne.symm h1,h];omega
  ·right;left;simp[h1,Ne.symm h1,h];omega
theorem Kd.Uk (a b:Kd):a.less b=true↔a.obj<b.obj\/(a.obj=b.obj/\(a.kind<b.kind\/(a.kind=b.kind/\a.off<b.off))):=by
 unfold Kd.less;by_cases h1:a.obj=b.obj
 ·by_cases h2:a.kind=b.kind
  ·rw[AA h1,AA h2,decide_eq_true_iff];omega
  ·rw[AA h1,AB h2,decide_eq_true_iff];omega
 ·rw[AB h1,decide_eq_true_iff];omega
def Kd.same (a b:Kd):Bool:=decide (a.obj=b.obj/\a.kind=b.kind/\a.off=b.off)
theorem Kd.same_iff (a b:Kd):a.same b=true↔a.obj=b.obj/\a.kind=b.kind/\a.off=b.off:=decide_eq_true_iff
theorem Kd.Nl (k:Kd):k.may=true↔(0<=k.obj/\k.obj<=2147483647)/\(0<=k.kind/\k.kind<=255)/\0<=k.off/\k.off<=2147483647:=decide_eq_true_iff
theorem Kd.trans (a b c:Kd)(h1:a.less b=true)(h2:b.less c=true):a.less c=true:=by
 rw[Kd.Uk] at *;omega
theorem q51 (A:OA)(k c:Nat)(f:List (LU))(w:WD)(h:Parts w A k c f)(Y:tot f k<=35184372088832) :
  Calls prog 90 #[.slice A k c] w λe R=>∃y u D,e=.returned (.slice y u D)/\Own R w.1.size 5 y u D (cat f k)/\Below w.1.size w R:=by
 have W:k<=c:=h.2.1;have hm:c<=maxLen:=h.2.2.1;unfold maxLen at hm;have K:=HI h.len;go_enter func90,ntmps90
 go_wp2;go_loop [3,11] (λs i=>∃j:Nat,j<=k/\i=.int .i64 j/\s=.int .i64 (tot f j:Nat)) (λ_ i=>k-(intOf i).toNat)
 case atStart=>exact⟨0,AW _,rfl,by rw[qrz];rfl⟩
 case round=>
  obtain⟨j,Z,rfl,rfl⟩:=hrel;by_cases Q:j<k
  ·obtain⟨U,B,n,d,rfl,H,E,J⟩:=h.cell Q;have F:=qv4 f (j+1) k (by omega);have hn:=qj5 f j (by rw[K.out];omega);rw[J.len] at hn;have T:=HI hn;rw[hn] at F;clear hn;go_wp2;exact⟨⟨j+1,by omega,by go_num,by rw[T.out];go_num⟩,by simp[intOf];omega⟩
  ·obtain rfl:j=k:=by omega
   go_wp2_with (at_make;refine qew _ Bv rfl _ _ rfl _ _ (tot f j) rfl rfl (by omega) ?_)
   intro w1 G M;go_wp2;go_loopw [6,24] (λs i wr=>∃(q:Nat) (y:OA) (u D:Nat),q<=j/\i=.int .i64 q/\s=.slice y u D/\Own wr w.1.size 5 y u D (cat f q)/\Below w.1.size w wr) (λ_ i _=>j-(intOf i).toNat)
   case atStart=>exact⟨0,_,_,_,AW _,rfl,rfl,by rw[qry];exact G,M⟩
   case round=>
    obtain⟨q,y,u,D,hq,rfl,rfl,g,p⟩:=hrel;by_cases I:q<j
    ·have F:=qv4 f (q+1) j (by omega);have hn:=qj5 f q (by rw[K.out];omega);obtain⟨U,B,n,d,rfl,H,E,J⟩:=(h.below p).cell I;rw[J.len,show tot f q=u from g.len] at hn;rw[hn] at F;clear hn;go_wp2_with (at_builtin;refine q5t _ Bv rfl _ _ rfl w.1.size y u D _ rfl g B n d _ rfl J (by omega) p.size ?_)
     intro X c2 w2 m O;rw[<-qj4 f q (by rw[K.out];omega)] at m;go_wp2;exact⟨⟨q+1,_,_,_,by omega,by go_num,rfl,m,p.trans O⟩,by simp[intOf];omega⟩
    ·obtain rfl:q=j:=by omega
     go_wp2;go_ret;exact⟨_,_,_,rfl,g,p⟩
def G6 (l:LU)(x n:Int):LU:=if 1<=n/\n<=8 then l++Qy x n.toNat else l
theorem q7l (A:OA)(k c:Nat)(l:LU)(x n:Int)(w:WD)(h:Sl w A k c l)(O:k<=17592186044416) :
  Calls prog 65 #[.slice A k c,.int .i64 x,.int .i64 n] w λe I=>∃y G D,e=.returned (.slice y G D)/\Own I w.1.size 5 y G D (G6 l x n)/\Below w.1.size w I:=by
 have F:=h.len;have u:=HI F;clear F;by_cases h1:1<=n
 ·by_cases E:n<=8
  ·have p:=HI (show G6 l x n=l++Qy x n.toNat from AA ⟨h1,E⟩);go_enter func65,ntmps65
   go_wp2_with (first
    |(go_at_call 95;refine (qby x n _ h1 E).mono ?_;rintro e Q ⟨M,c1,rfl,m,g⟩)
    |(go_at_call 90;refine (q51 _ _ _ [l,Qy x n.toNat] _ (Qbe 22 (h.below g) m.sl) (by rw[Qc3,Xy,u.out];omega)).mono ?_;rintro e J ⟨B,H,c2,rfl,d,f⟩))
   go_ret;rw[Qco,<-p.out] at d;have K:=g.size;exact⟨_,_,_,rfl,d.less (by simp;omega),g.trans (((AI _ _).alloc K _).trans (f.mono (by simp;omega)))⟩
  ·have p:=HI (show G6 l x n=l from AB (by omega));go_enter func65,ntmps65
   go_wp2_with (go_at_call 90;refine (q51 _ _ _ [l] _ (Bh 22 h) (by rw[Qas,u.out];omega)).mono ?_;rintro e J ⟨B,H,c2,rfl,d,f⟩)
   go_ret;rw[Qaj] at d;rw[p.out];exact⟨_,_,_,rfl,d.less (by simp),(Ql).trans (f.mono (by simp))⟩
 ·have p:=HI (show G6 l x n=l from AB (by omega));go_enter func65,ntmps65
  go_wp2_with (go_at_call 90;refine (q51 _ _ _ [l] _ (Bh 22 h) (by rw[Qas,u.out];omega)).mono ?_;rintro e J ⟨B,H,c2,rfl,d,f⟩)
  go_ret;rw[Qaj] at d;rw[p.out];exact⟨_,_,_,rfl,d.less (by simp),(Ql).trans (f.mono (by simp))⟩
section
open Go.ChangeMaps (setBlock)
def kI (e:MapEntry):Int:=match e.key with|.int _ z=>z|_=>0
def Ze (s:Int):List MapEntry->Option Value
 |[]=>none
 |e::r=>if kI e=s then some e.val else Ze s r
def Zr (s:Int)(v:Value)(c:Nat):List MapEntry->List MapEntry
 |[]=>[{ key:=.int .i64 s,val:=v,born:=c }]
 |e::r=>if kI e=s then { e with key:=.int .i64 s,val:=v }::r else e::Zr s v c r
def Xr (s:Int):List MapEntry->List MapEntry
 |[]=>[]
 |e::r=>if kI e=s then r else e::Xr s r
structure U1 (l:List MapEntry)(clock:Nat):Prop where
 key:∀e∈l,e.key=.int .i64 (kI e)
 one:(l.map kI).Nodup
 born:(l.map (·.born)).Nodup
 clock:∀e∈l,e.born<clock
theorem Qb0 (s:Int)(v:Value)(c:Nat):kI { key:=.int .i64 s,val:=v,born:=c }=s:=rfl
theorem qji {s:Int}{v:Value}:∀{l:List MapEntry},Ze s l=some v->∃e∈l,kI e=s/\e.val=v
 |[],h=>by cases h
 |e::r,h=>by
  unfold Ze at h;split at h
  ·exact⟨e,by simp,by assumption,by simpa using h⟩
  ·obtain⟨x,d,h2⟩:=qji h;exact⟨x,by simp[d],h2⟩
theorem qfg {s:Int}:∀{l:List MapEntry},Ze s l=none->∀e∈l,kI e≠s
 |[],_,e,he=>by cases he
 |x::r,h,e,he=>by
  unfold Ze at h;split at h
  ·cases h
  ·rcases List.mem_cons.1 he with rfl|h2
   ·assumption
   ·exact qfg h e h2
theorem q61 {l:List MapEntry}(hn:(l.map kI).Nodup){e:MapEntry}(d:e∈l):Ze (kI e) l=some e.val:=by
 induction l with
 |nil=>cases d
 |cons x r ih=>
  unfold Ze;rw[BJ,List.nodup_cons] at hn;rcases List.mem_cons.1 d with rfl|h2
  ·simp
  ·rw[AB (λh=>hn.1 (by rw[h];exact List.mem_map.2 ⟨e,h2,rfl⟩))];exact ih hn.2 h2
theorem qdq (s:Int)(v:Value)(c:Nat)(z:Int):∀l:List MapEntry,Ze z (Zr s v c l)=if z=s then some v else Ze z l
 |[]=>by
  unfold Zr Ze;rw[Qb0];by_cases h:s=z
  ·simp[h]
  ·have:¬z=s:=λe=>h e.symm
   simp[h,this,Ze]
 |e::r=>by
  unfold Zr;by_cases h:kI e=s
  ·rw[AA h];by_cases d:s=z
   ·subst d;simp[Ze,kI]
   ·have f:¬z=s:=λe=>d e.symm
    have g:¬kI e=z:=λe=>d (h.symm.trans e)
    have m:¬kI { e with key:=.int .i64 s,val:=v }=z:=d;unfold Ze;rw[AB m,AB f,AB g]
  ·rw[AB h];unfold Ze;rw[qdq s v c z r];by_cases d:kI e=z
   ·have:¬z=s:=λp=>h (d.trans p)
    simp[d,this]
   ·simp[d]
theorem q8z {s:Int}(z:Int):∀{l:List MapEntry},(l.map kI).Nodup->Ze z (Xr s l)=if z=s then none else Ze z l
 |[],_=>by simp[Xr,Ze]
 |e::r,hn=>by
  rw[BJ,List.nodup_cons] at hn;unfold Xr;by_cases h:kI e=s
  ·rw[AA h];by_cases d:z=s
   ·rw[AA d,d]
    cases g:Ze s r with
    |none=>rfl
    |some v=>
     obtain⟨x,p,h2,_⟩:=qji g;exact absurd (List.mem_map.2 ⟨x,p,h2.trans h.symm⟩) hn.1
   ·rw[AB d];have m:Ze z (e::r)=Ze z r:=by
     show (if kI e=z then some e.val else Ze z r)=_;rw[AB (λf=>d (f.symm.trans h))]
    exact m.symm
  ·rw[AB h];unfold Ze;rw[q8z z hn.2];by_cases d:kI e=z
   ·have:¬z=s:=λf=>h (d.trans f)
    simp[d,this]
   ·simp[d]
theorem q9z {s:Int}{v:Value}{c:Nat}:∀{l:List MapEntry} {e:MapEntry},e∈Zr s v c l->e∈l\/(e.key=.int .i64 s/\(e.born=c\/∃x∈l,x.born=e.born))
 |[],e,h=>by
  simp[Zr] at h;subst h;exact .inr ⟨rfl,.inl rfl⟩
 |x::r,e,h=>by
  unfold Zr at h;split at h
  ·rcases List.mem_cons.1 h with rfl|h2
   ·exact .inr ⟨rfl,.inr ⟨x,by simp,rfl⟩⟩
   ·exact .inl (by simp[h2])
  ·rcases List.mem_cons.1 h with rfl|h2
   ·exact .inl (by simp)
   ·rcases q9z h2 with d|⟨d,f⟩
    ·exact .inl (by simp[d])
    ·refine .inr ⟨d,f.imp id λ⟨y,m,g⟩=>⟨y,by simp[m],g⟩⟩
theorem q62 {s:Int}:∀{l:List MapEntry} {e:MapEntry},e∈Xr s l->e∈l
 |[],e,h=>by cases h
 |x::r,e,h=>by
  unfold Xr at h;split at h
  ·simp[h]
  ·rcases List.mem_cons.1 h with rfl|h2
   ·simp
   ·simp[q62 h2]
theorem qhy {s:Int}:∀(l:List MapEntry),List.Sublist (Xr s l) l
 |[]=>.slnil
 |x::r=>by
  unfold Xr;split
  ·exact List.sublist_cons_self ..
  ·exact (qhy r).cons_cons x
theorem qvd {s:Int}{v:Value}{c:Nat}:∀(l:List MapEntry),(Zr s v c l).map kI=if Ze s l=none then l.map kI++[s] else l.map kI
 |[]=>by simp[Zr,Ze,kI]
 |x::r=>by
  unfold Zr Ze;by_cases h:kI x=s
  ·rw[AA h,AA h,AB (by simp)];simp[kI] at h ⊢;exact h.symm
  ·rw[AB h,AB h,BJ,qvd r];split<;>simp
theorem qdr {s:Int}{v:Value}{c:Nat}:∀(l:List MapEntry),(Zr s v c l).map (·.born)=if Ze s l=none then l.map (·.born)++[c] else l.map (·.born)
 |[]=>by simp[Zr,Ze]
 |x::r=>by
  unfold Zr Ze;by_cases h:kI x=s
  ·rw[AA h,AA h,AB (by simp)];simp
  ·rw[AB h,AB h,BJ,qdr r];split<;>simp
theorem qbz {s:Int}:∀(l:List MapEntry),(Xr s l).length=if Ze s l=none then l.length else l.length-1
 |[]=>by simp[Xr,Ze]
 |x::r=>by
  unfold Xr Ze;by_cases h:kI x=s
  ·simp[h]
  ·rw[AB h,AB h,AX,qbz r];split
   ·simp
   ·rename_i d;have:0<r.length:=by
     rcases r with _|⟨a,b⟩
     ·exact absurd rfl d
     ·simp
    simp;omega
theorem qsv:U1 [] 0:=⟨by simp,by simp,by simp,by simp⟩
theorem U1.put {l:List MapEntry}{clock:Nat}(h:U1 l clock)(s:Int)(v:Value):U1 (Zr s v clock l) (if Ze s l=none then clock+1 else clock):=by
 have u:∀e∈Zr s v clock l,e.born<clock+1:=λe d=>by
  rcases q9z d with h2|⟨_,h2|⟨x,p,h2⟩⟩
  ·have:=h.clock e h2;omega
  ·omega
  ·have:=h.clock x p;omega
 refine⟨λe d=>?_,?_,?_,λe d=>?_⟩
 ·rcases q9z d with h2|⟨h2,_⟩
  ·exact h.key e h2
  ·unfold kI;rw[h2]
 ·rw[qvd];split
  ·rename_i g;rw[List.nodup_append];refine⟨h.one,by simp,λa m b f=>?_⟩;obtain rfl:b=s:=by simpa using f
   obtain⟨e,d,rfl⟩:=List.mem_map.1 m;exact qfg g e d
  ·exact h.one
 ·rw[qdr];split
  ·rw[List.nodup_append];refine⟨h.born,by simp,λa m b f=>?_⟩;obtain rfl:b=clock:=by simpa using f
   obtain⟨e,d,rfl⟩:=List.mem_map.1 m;have:=h.clock e d;show e.born≠b;omega
  ·exact h.born
 ·by_cases g:Ze s l=none
  ·rw[AA g];exact u e d
  ·rw[AB g];have f:e.born∈(Zr s v clock l).map (·.born):=List.mem_map.2 ⟨e,d,rfl⟩;rw[qdr,AB g] at f;obtain⟨x,p,h2⟩:=List.mem_map.1 f;have:=h.clock x p;rw[<-h2];exact this
theorem U1.del {l:List MapEntry}{clock:Nat}(h:U1 l clock)(s:Int):U1 (Xr s l) clock:=
 ⟨λe d=>h.key e (q62 d),h.one.sublist ((qhy l).map kI),h.born.sublist ((qhy l).map _),λe d=>h.clock e (q62 d)⟩
theorem qa0 (s:Int):∀(l:List MapEntry) (i:Nat),(∀e∈l,e.key=.int .i64 (kI e))->
  (Instr.findNow (.int .i64) (.int .i64 s) l i=some none/\Ze s l=none/\(∀v c,Zr s v c l=l++[{ key:=.int .i64 s,val:=v,born:=c }])/\Xr s l=l)\/
  ∃j e,Instr.findNow (.int .i64) (.int .i64 s) l i=some (some (i+j,e.val))/\l[j]?=some e/\e.key=.int .i64 s/\Ze s l=some e.val/\
   (∀v c,Zr s v c l=l.modify j λe=>{ e with key:=.int .i64 s,val:=v })/\Xr s l=l.eraseIdx j
 |[],i,_=>.inl ⟨rfl,rfl,λ_ _=>rfl,rfl⟩
 |x::r,i,hk=>by
  have m:=hk x (by simp);by_cases h:kI x=s
  ·refine .inr ⟨0,x,?_,rfl,by rw[m,h],by simp[Ze,h],λv c=>by simp[Zr,h],by simp[Xr,h]⟩;rw[Instr.findNow,m,h];simp[Instr.sameNow]
  ·have p:Instr.findNow (.int .i64) (.int .i64 s) (x::r) i=Instr.findNow (.int .i64) (.int .i64 s) r (i+1):=by
    have g:(s==kI x)=false:=by rw[beq_eq_false_iff_ne];exact λe=>h e.symm
    rw[Instr.findNow,m];simp[Instr.sameNow,g]
   rcases qa0 s r (i+1) (λe A=>hk e (by simp[A])) with⟨h1,h2,d,f⟩|⟨j,e,h1,h2,d,f,u,y⟩
   ·exact .inl ⟨p.trans h1,by simp[Ze,h,h2],λv c=>by simp[Zr,h,d],by simp[Xr,h,f]⟩
   ·refine .inr ⟨j+1,e,by rw[p,h1];congr 3;omega,by simpa using h2,d,by simp[Ze,h,f],λv c=>by simp[Zr,h,u],by simp[Xr,h,y]⟩
section
variable {P:Program}{w:WD}{t k e b clock:Nat}{l:List MapEntry}
theorem qa1 (E:U1 l clock)(p:P.underlying t=some (.map k e))(f:P.underlying k=some (.int .i64)){z:Value}(A:(zeroValue e).run P w=.ok z w)(g:w.1[b]?=some (.map l.toArray clock))(s:Int) :
  (Instr.lookup t (.map (some b)) (.int .i64 s) false).run P w=.ok ((Ze s l).getD z) w:=by
 have m:=λu=>MapKept.run_checkKey (P:=P) (w:=w) f (k:=.int .i64 s) rfl u 9999
 rcases qa0 s l 0 E.key with⟨h1,h2,_⟩|⟨j,x,h1,_,_,y,_⟩
 ·have d:=MapKept.run_findKey (P:=P) (w:=w) f h1;simp[Instr.lookup,run_underlying p,MapKept.run_getObj_map g,m,d,A,h2]
 ·have d:=MapKept.run_findKey (P:=P) (w:=w) f h1;simp[Instr.lookup,run_underlying p,MapKept.run_getObj_map g,m,d,y]
theorem q1t (E:U1 l clock)(y:P.underlying t=some (.map k e))(m:P.underlying k=some (.int .i64))(d:w.1[b]?=some (.map l.toArray clock))(s:Int)(v:Value) :
  (Instr.mapUpdate t (.map (some b)) (.int .i64 s) v).run P w=.ok () (setBlock w b (.map (Zr s v clock l).toArray (if Ze s l=none then clock+1 else clock))):=by
 have u:=λA=>MapKept.run_checkKey (P:=P) (w:=w) m (k:=.int .i64 s) rfl A 9999
 rcases qa0 s l 0 E.key with⟨h1,h2,g,_⟩|⟨j,x,h1,F,g,B,D,_⟩
 ·have f:=MapKept.run_findKey (P:=P) (w:=w) m h1;simp[Instr.mapUpdate,run_underlying y,MapKept.run_getObj_map d,u,f,h2,g,MapKept.run_setObj_map _ d,setBlock]
 ·have f:=MapKept.run_findKey (P:=P) (w:=w) m h1;rw[AT] at f;have p:(Instr.keyThatStays (.int .i64 s) (.int .i64 s)).run P w=.ok (.int .i64 s) w:=by
   simp[Instr.keyThatStays,Instr.sameBits]
  simp[Instr.mapUpdate,run_underlying y,MapKept.run_getObj_map d,u,f,B,D,F,g,p,MapKept.run_setObj_map _ d,setBlock]
theorem q4k (E:U1 l clock)(p:P.underlying t=some (.map k e))(g:P.underlying k=some (.int .i64))(d:w.1[b]?=some (.map l.toArray clock))(s:Int)(u ty:TypeId) :
  (Builtin.delete_ #[t,u] ty #[.map (some b),.int .i64 s]).run P w=.ok (.tuple #[]) (setBlock w b (.map (Xr s l).toArray clock)):=by
 have m:=λy=>MapKept.run_checkKey (P:=P) (w:=w) g (k:=.int .i64 s) rfl y 9999
 rcases qa0 s l 0 E.key with⟨h1,h2,_,A⟩|⟨j,x,h1,F,D,_,_,B⟩
 ·have f:=MapKept.run_findKey (P:=P) (w:=w) g h1;simp[Builtin.delete_,run_underlying p,MapKept.run_getObj_map d,m,f,A,MapKept.run_setObj_map _ d,setBlock]
 ·have f:=MapKept.run_findKey (P:=P) (w:=w) g h1;rw[AT] at f;simp[Builtin.delete_,run_underlying p,MapKept.run_getObj_map d,m,f,B,MapKept.run_setObj_map _ d,setBlock]
end
end
theorem qhz (w:WD)(e:TypeId)(fr:Nat × Nat)(l:LU)(d:Array Value)(h:d.toList=l.map bv)(hm:l.length<=16777216):Sl (w.alloc (.cells d e fr)) (some ⟨w.1.size,0,none⟩) l.length l.length l:=by
 refine⟨by simp,AE _,by unfold maxLen;omega,λj u f=>⟨_,rfl,by simp,?_⟩⟩;rw[Addr.add_lit,AT,World.cell?_alloc_mark,<-f,<-h];simp
theorem Sl.one {w:WD}{A:OA}{n c:Nat}{l:LU}(h:Sl w A n c l){k:Nat}(hk:k<n):∃d,A=some d/\Sl w (some (d.add k)) 1 (c-k) [UInt8.ofNat (Yb l k)]:=by
 obtain⟨d,rfl,f,m⟩:=h.cell hk;refine⟨d,rfl,⟨rfl,by have:=h.cap;omega,by have:=h.max;omega,λj u g=>?_⟩⟩;rcases j with _|j
 ·refine⟨_,rfl,by rw[Ov];exact f,?_⟩;rw[qj3,Nat.add_zero,m];have f:=q8c l k;have e:u=bv (UInt8.ofNat (Yb l k)):=by simpa using g.symm
  rw[e];unfold bv;rw[UInt8.toNat_ofNat',Nat.mod_eq_of_lt (by omega)]
 ·simp at g
