/- The plain numbers of CRC-32C: a step is linear and one «to» one; four steps are one look-up -/
import Derived.Test.YtnjacafcocnicaaGreatDoorAl
import Derived.Lib.Hide
namespace Go.Proofs.YtnjacafcocnicaaGreatDoor
open Go Go.RowKit Go.Proofs
def st (r:Nat):Nat:=if r % 2=1 then (r / 2) ^^^ 2197175160 else r / 2
def Iq (r:Nat):Nat:=st (st (st (st r)))
def st8 (r:Nat):Nat:=Iq (Iq r)
def by8 (r:Nat)(b:UInt8):Nat:=st8 (r ^^^ b.toNat)
def Yu (r:Nat)(l:LU):Nat:=l.foldl by8 r
def more (s:Nat)(l:LU):Nat:=4294967295-Yu (4294967295-s) l
theorem qps {a b:Nat}(e:a<4294967296)(f:b<4294967296):a ^^^ b<4294967296:=Nat.xor_lt_two_pow (n:=32) e f
theorem qun {r:Nat}(h:r<4294967296):st r<4294967296:=by
 unfold st;split
 ·exact qps (by omega) (by decide)
 ·omega
theorem qks {r:Nat}(h:r<4294967296):Iq r<4294967296:=qun (qun (qun (qun h)))
theorem qBi {r:Nat}(h:r<4294967296):st8 r<4294967296:=qks (qks h)
theorem qBj {r:Nat}(b:UInt8)(h:r<4294967296):by8 r b<4294967296:=qBi (qps h (by have:=b.toNat_lt;omega))
theorem qpt {r:Nat}(l:LU)(h:r<4294967296):Yu r l<4294967296:=by
 induction l generalizing r with
 |nil=>exact h
 |cons b l ih=>exact ih (qBj b h)
theorem quo (a b:Nat):(a ^^^ b) % 2=(a % 2+b % 2) % 2:=by
 have h:=Nat.testBit_xor a b 0;rw[Nat.testBit_zero,Nat.testBit_zero,Nat.testBit_zero] at h;have f:=Nat.mod_two_eq_zero_or_one (a ^^^ b);rcases Nat.mod_two_eq_zero_or_one a with h1|h1<;>rcases Nat.mod_two_eq_zero_or_one b with h2|h2<;>rcases f with e|e<;>rw[h1,h2,e] at h<;>rw[h1,h2,e]<;>revert h<;>decide
theorem qup (a b:Nat):(a ^^^ b) / 2=a / 2 ^^^ b / 2:=by
 apply Nat.eq_of_testBit_eq
 intro i;rw[Nat.testBit_xor,<-Nat.testBit_succ,<-Nat.testBit_succ,<-Nat.testBit_succ,Nat.testBit_xor]
theorem qkt (a b:Nat):st (a ^^^ b)=st a ^^^ st b:=by
 unfold st;rw[quo,qup];rcases Nat.mod_two_eq_zero_or_one a with e|e<;>rcases Nat.mod_two_eq_zero_or_one b with f|f<;>simp[e,f]
 ·rw[Nat.xor_assoc]
 ·rw[Nat.xor_assoc,Nat.xor_assoc,Nat.xor_comm (b / 2)]
 ·rw[Nat.xor_assoc,Nat.xor_comm 2197175160,Nat.xor_assoc,Nat.xor_self,Nat.xor_zero]
theorem qz7 (a b:Nat):Iq (a ^^^ b)=Iq a ^^^ Iq b:=by unfold Iq;rw[qkt,qkt,qkt,qkt]
theorem qz8 (r:Nat):r / 16*16 ^^^ r % 16=r:=by
 apply Nat.eq_of_testBit_eq
 intro i;have h1:=Nat.testBit_mul_two_pow (r / 16) (i:=4) (j:=i);have h2:=Nat.testBit_mod_two_pow r 4 i;have e:=Nat.testBit_div_two_pow (n:=4) r (i-4);rw[show (2:Nat) ^ 4=16 from rfl] at h1 h2 e;rw[Nat.testBit_xor,h1,h2,e];by_cases h:i<4
 ·simp[h,show ¬4<=i by omega]
 ·simp[h,show 4<=i by omega]
theorem quq (q:Nat):Iq (q*16)=q:=by
 unfold Iq st;rw[AB (by omega:¬q*16 % 2=1),AB (by omega:¬q*16 / 2 % 2=1),AB (by omega:¬q*16 / 2 / 2 % 2=1),AB (by omega:¬q*16 / 2 / 2 / 2 % 2=1)];omega
theorem qur (r:Nat):Iq r=r / 16 ^^^ Iq (r % 16):=by
 have h:=qz7 (r / 16*16) (r % 16);rw[qz8,quq] at h;exact h
theorem qe9 (r:Nat)(l m:LU):Yu r (l++m)=Yu (Yu r l) m:=by unfold Yu;rw[List.foldl_append]
theorem qis (r:Nat)(l:LU)(c:UInt8):Yu r (l++[c])=by8 (Yu r l) c:=qe9 r l [c]
theorem qz9 (s:Nat)(l:LU):more s l<4294967296:=by unfold more;omega
theorem qku {s:Nat}(h:s<4294967296):s ^^^ 4294967295=4294967295-s:=by
 have h1:(4294967295-s)=(BitVec.ofNat 32 s ^^^ BitVec.allOnes 32).toNat:=by
  rw[BitVec.xor_allOnes];simp;omega
 rw[h1,BitVec.toNat_xor];simp;rw[Nat.mod_eq_of_lt h]
