/- The plain numbers of CRC-32C: a step is linear and one «to» one; four steps are one look-up -/
import Derived.Lib.Hide
namespace Go.Proofs.YthkfkhejjmhomaaGreatDoor
open Go Go.RowKit Go.Proofs
def st (r:Nat):Nat:=if r % 2=1 then (r / 2) ^^^ 2197175160 else r / 2
def U2 (r:Nat):Nat:=st (st (st (st r)))
def Ht (r:Nat):Nat:=U2 (U2 r)
def by8 (r:Nat)(b:UInt8):Nat:=Ht (r ^^^ b.toNat)
def Yl (r:Nat)(l:List UInt8):Nat:=l.foldl by8 r
def more (s:Nat)(l:List UInt8):Nat:=4294967295-Yl (4294967295-s) l
theorem Qs9 {a b:Nat}(d:a<4294967296)(e:b<4294967296):a ^^^ b<4294967296:=Nat.xor_lt_two_pow (n:=32) d e
theorem Qug {r:Nat}(h:r<4294967296):st r<4294967296:=by
 unfold st;split
 ·exact Qs9 (by omega) (by decide)
 ·omega
theorem Qnc {r:Nat}(h:r<4294967296):U2 r<4294967296:=Qug (Qug (Qug (Qug h)))
theorem Ze7 {r:Nat}(h:r<4294967296):Ht r<4294967296:=Qnc (Qnc h)
theorem Zd9 {r:Nat}(b:UInt8)(h:r<4294967296):by8 r b<4294967296:=Ze7 (Qs9 h (by have:=b.toNat_lt;omega))
theorem Qu0 {r:Nat}(l:List UInt8)(h:r<4294967296):Yl r l<4294967296:=by
 induction l generalizing r with
 |nil=>exact h
 |cons b l ih=>exact ih (Zd9 b h)
theorem Zbk (a b:Nat):(a ^^^ b) % 2=(a % 2+b % 2) % 2:=by
 have h:=Nat.testBit_xor a b 0;rw[Nat.testBit_zero,Nat.testBit_zero,Nat.testBit_zero] at h;have e:=Nat.mod_two_eq_zero_or_one (a ^^^ b);rcases Nat.mod_two_eq_zero_or_one a with h1|h1<;>rcases Nat.mod_two_eq_zero_or_one b with h2|h2<;>rcases e with d|d<;>rw[h1,h2,d] at h<;>rw[h1,h2,d]<;>revert h<;>decide
theorem Zbj (a b:Nat):(a ^^^ b) / 2=a / 2 ^^^ b / 2:=by
 apply Nat.eq_of_testBit_eq
 intro i;rw[Nat.testBit_xor,<-Nat.testBit_succ,<-Nat.testBit_succ,<-Nat.testBit_succ,Nat.testBit_xor]
theorem Qnf (a b:Nat):st (a ^^^ b)=st a ^^^ st b:=by
 unfold st;rw[Zbk,Zbj];rcases Nat.mod_two_eq_zero_or_one a with d|d<;>rcases Nat.mod_two_eq_zero_or_one b with e|e<;>simp[d,e]
 ·rw[Nat.xor_assoc]
 ·rw[Nat.xor_assoc,Nat.xor_assoc,Nat.xor_comm (b / 2)]
 ·rw[Nat.xor_assoc,Nat.xor_comm 2197175160,Nat.xor_assoc,Nat.xor_self,Nat.xor_zero]
theorem Zdh (a b:Nat):U2 (a ^^^ b)=U2 a ^^^ U2 b:=by unfold U2;rw[Qnf,Qnf,Qnf,Qnf]
theorem Zdg (r:Nat):r / 16*16 ^^^ r % 16=r:=by
 apply Nat.eq_of_testBit_eq
 intro i;have h1:=Nat.testBit_mul_two_pow (r / 16) (i:=4) (j:=i);have h2:=Nat.testBit_mod_two_pow r 4 i;have d:=Nat.testBit_div_two_pow (n:=4) r (i-4);rw[show (2:Nat) ^ 4=16 from rfl] at h1 h2 d;rw[Nat.testBit_xor,h1,h2,d];by_cases h:i<4
 ·simp[h,show ¬4<=i by omega]
 ·simp[h,show 4<=i by omega]
theorem Za2 (q:Nat):U2 (q*16)=q:=by
 unfold U2 st;rw[if_neg (by omega:¬q*16 % 2=1),if_neg (by omega:¬q*16 / 2 % 2=1),if_neg (by omega:¬q*16 / 2 / 2 % 2=1),if_neg (by omega:¬q*16 / 2 / 2 / 2 % 2=1)];omega
theorem Za3 (r:Nat):U2 r=r / 16 ^^^ U2 (r % 16):=by
 have h:=Zdh (r / 16*16) (r % 16);rw[Zdg,Za2] at h;exact h
theorem Qke (r:Nat)(l m:List UInt8):Yl r (l++m)=Yl (Yl r l) m:=by unfold Yl;rw[List.foldl_append]
theorem Qn9 (r:Nat)(l:List UInt8)(c:UInt8):Yl r (l++[c])=by8 (Yl r l) c:=Qke r l [c]
theorem Zcy (s:Nat)(l:List UInt8):more s l<4294967296:=by unfold more;omega
theorem Qqu {s:Nat}(h:s<4294967296):s ^^^ 4294967295=4294967295-s:=by
 have h1:(4294967295-s)=(BitVec.ofNat 32 s ^^^ BitVec.allOnes 32).toNat:=by
  rw[BitVec.xor_allOnes];simp;omega
 rw[h1,BitVec.toNat_xor];simp;rw[Nat.mod_eq_of_lt h]
