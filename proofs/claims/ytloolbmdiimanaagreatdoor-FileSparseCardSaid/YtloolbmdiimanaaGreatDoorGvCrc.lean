/- The plain numbers of CRC-32C: a step is linear and one «to» one; four steps are one look-up -/
import Derived.Test.YtloolbmdiimanaaGreatDoorGvAl
import Derived.Lib.Hide
namespace Go.Proofs.YtloolbmdiimanaaGreatDoor
open Go Go.RowKit Go.Proofs
def st (r:Nat):Nat:=if r % 2=1 then (r / 2) ^^^ 2197175160 else r / 2
def Ez (r:Nat):Nat:=st (st (st (st r)))
def st8 (r:Nat):Nat:=Ez (Ez r)
def by8 (r:Nat)(b:UInt8):Nat:=st8 (r ^^^ b.toNat)
def Yf (r:Nat)(l:LU):Nat:=l.foldl by8 r
def more (s:Nat)(l:LU):Nat:=4294967295-Yf (4294967295-s) l
theorem qns {a b:Nat}(d:a<4294967296)(e:b<4294967296):a ^^^ b<4294967296:=Nat.xor_lt_two_pow (n:=32) d e
theorem qs8 {r:Nat}(h:r<4294967296):st r<4294967296:=by
 unfold st;split
 ·exact qns (by omega) (by decide)
 ·omega
theorem qj9 {r:Nat}(h:r<4294967296):Ez r<4294967296:=qs8 (qs8 (qs8 (qs8 h)))
theorem qy2 {r:Nat}(h:r<4294967296):st8 r<4294967296:=qj9 (qj9 h)
theorem qy3 {r:Nat}(b:UInt8)(h:r<4294967296):by8 r b<4294967296:=qy2 (qns h (by have:=b.toNat_lt;omega))
theorem qnt {r:Nat}(l:LU)(h:r<4294967296):Yf r l<4294967296:=by
 induction l generalizing r with
 |nil=>exact h
 |cons b l ih=>exact ih (qy3 b h)
theorem qs9 (a b:Nat):(a ^^^ b) % 2=(a % 2+b % 2) % 2:=by
 have h:=Nat.testBit_xor a b 0;rw[Nat.testBit_zero,Nat.testBit_zero,Nat.testBit_zero] at h;have e:=Nat.mod_two_eq_zero_or_one (a ^^^ b);rcases Nat.mod_two_eq_zero_or_one a with h1|h1<;>rcases Nat.mod_two_eq_zero_or_one b with h2|h2<;>rcases e with d|d<;>rw[h1,h2,d] at h<;>rw[h1,h2,d]<;>revert h<;>decide
theorem qsa (a b:Nat):(a ^^^ b) / 2=a / 2 ^^^ b / 2:=by
 apply Nat.eq_of_testBit_eq
 intro i;rw[Nat.testBit_xor,<-Nat.testBit_succ,<-Nat.testBit_succ,<-Nat.testBit_succ,Nat.testBit_xor]
theorem qja (a b:Nat):st (a ^^^ b)=st a ^^^ st b:=by
 unfold st;rw[qs9,qsa];rcases Nat.mod_two_eq_zero_or_one a with d|d<;>rcases Nat.mod_two_eq_zero_or_one b with e|e<;>simp[d,e]
 ·rw[Nat.xor_assoc]
 ·rw[Nat.xor_assoc,Nat.xor_assoc,Nat.xor_comm (b / 2)]
 ·rw[Nat.xor_assoc,Nat.xor_comm 2197175160,Nat.xor_assoc,Nat.xor_self,Nat.xor_zero]
theorem qw4 (a b:Nat):Ez (a ^^^ b)=Ez a ^^^ Ez b:=by unfold Ez;rw[qja,qja,qja,qja]
theorem qw5 (r:Nat):r / 16*16 ^^^ r % 16=r:=by
 apply Nat.eq_of_testBit_eq
 intro i;have h1:=Nat.testBit_mul_two_pow (r / 16) (i:=4) (j:=i);have h2:=Nat.testBit_mod_two_pow r 4 i;have d:=Nat.testBit_div_two_pow (n:=4) r (i-4);rw[show (2:Nat) ^ 4=16 from rfl] at h1 h2 d;rw[Nat.testBit_xor,h1,h2,d];by_cases h:i<4
 ·simp[h,show ¬4<=i by omega]
 ·simp[h,show 4<=i by omega]
theorem qsb (q:Nat):Ez (q*16)=q:=by
 unfold Ez st;rw[AB (by omega:¬q*16 % 2=1),AB (by omega:¬q*16 / 2 % 2=1),AB (by omega:¬q*16 / 2 / 2 % 2=1),AB (by omega:¬q*16 / 2 / 2 / 2 % 2=1)];omega
theorem qsc (r:Nat):Ez r=r / 16 ^^^ Ez (r % 16):=by
 have h:=qw4 (r / 16*16) (r % 16);rw[qw5,qsb] at h;exact h
theorem qdq (r:Nat)(l m:LU):Yf r (l++m)=Yf (Yf r l) m:=by unfold Yf;rw[List.foldl_append]
theorem qhf (r:Nat)(l:LU)(c:UInt8):Yf r (l++[c])=by8 (Yf r l) c:=qdq r l [c]
theorem qw6 (s:Nat)(l:LU):more s l<4294967296:=by unfold more;omega
theorem qjb {s:Nat}(h:s<4294967296):s ^^^ 4294967295=4294967295-s:=by
 have h1:(4294967295-s)=(BitVec.ofNat 32 s ^^^ BitVec.allOnes 32).toNat:=by
  rw[BitVec.xor_allOnes];simp;omega
 rw[h1,BitVec.toNat_xor];simp;rw[Nat.mod_eq_of_lt h]
