/- The plain numbers of CRC-32C: a step is linear and one «to» one; four steps are one look-up -/
import Derived.Lib.Hide
namespace Go.Proofs.YthkfkhejjmhomaaGreatDoor
open Go Go.RowKit Go.Proofs
def st (r:Nat):Nat:=if r % 2=1 then (r / 2) ^^^ 2197175160 else r / 2
def E8 (r:Nat):Nat:=st (st (st (st r)))
def st8 (r:Nat):Nat:=E8 (E8 r)
def by8 (r:Nat)(b:UInt8):Nat:=st8 (r ^^^ b.toNat)
def Xz (r:Nat)(l:List UInt8):Nat:=l.foldl by8 r
def more (s:Nat)(l:List UInt8):Nat:=4294967295-Xz (4294967295-s) l
theorem qo4 {a b:Nat}(d:a<4294967296)(e:b<4294967296):a ^^^ b<4294967296:=Nat.xor_lt_two_pow (n:=32) d e
theorem qso {r:Nat}(h:r<4294967296):st r<4294967296:=by
 unfold st;split
 ·exact qo4 (by omega) (by decide)
 ·omega
theorem qjh {r:Nat}(h:r<4294967296):E8 r<4294967296:=qso (qso (qso (qso h)))
theorem qy9 {r:Nat}(h:r<4294967296):st8 r<4294967296:=qjh (qjh h)
theorem qya {r:Nat}(b:UInt8)(h:r<4294967296):by8 r b<4294967296:=qy9 (qo4 h (by have:=b.toNat_lt;omega))
theorem qo5 {r:Nat}(l:List UInt8)(h:r<4294967296):Xz r l<4294967296:=by
 induction l generalizing r with
 |nil=>exact h
 |cons b l ih=>exact ih (qya b h)
theorem qsp (a b:Nat):(a ^^^ b) % 2=(a % 2+b % 2) % 2:=by
 have h:=Nat.testBit_xor a b 0;rw[Nat.testBit_zero,Nat.testBit_zero,Nat.testBit_zero] at h;have e:=Nat.mod_two_eq_zero_or_one (a ^^^ b);rcases Nat.mod_two_eq_zero_or_one a with h1|h1<;>rcases Nat.mod_two_eq_zero_or_one b with h2|h2<;>rcases e with d|d<;>rw[h1,h2,d] at h<;>rw[h1,h2,d]<;>revert h<;>decide
theorem qsq (a b:Nat):(a ^^^ b) / 2=a / 2 ^^^ b / 2:=by
 apply Nat.eq_of_testBit_eq
 intro i;rw[Nat.testBit_xor,<-Nat.testBit_succ,<-Nat.testBit_succ,<-Nat.testBit_succ,Nat.testBit_xor]
theorem qji (a b:Nat):st (a ^^^ b)=st a ^^^ st b:=by
 unfold st;rw[qsp,qsq];rcases Nat.mod_two_eq_zero_or_one a with d|d<;>rcases Nat.mod_two_eq_zero_or_one b with e|e<;>simp[d,e]
 ·rw[Nat.xor_assoc]
 ·rw[Nat.xor_assoc,Nat.xor_assoc,Nat.xor_comm (b / 2)]
 ·rw[Nat.xor_assoc,Nat.xor_comm 2197175160,Nat.xor_assoc,Nat.xor_self,Nat.xor_zero]
theorem qwa (a b:Nat):E8 (a ^^^ b)=E8 a ^^^ E8 b:=by unfold E8;rw[qji,qji,qji,qji]
theorem qwb (r:Nat):r / 16*16 ^^^ r % 16=r:=by
 apply Nat.eq_of_testBit_eq
 intro i;have h1:=Nat.testBit_mul_two_pow (r / 16) (i:=4) (j:=i);have h2:=Nat.testBit_mod_two_pow r 4 i;have b:=Nat.testBit_div_two_pow (n:=4) r (i-4);rw[show (2:Nat) ^ 4=16 from rfl] at h1 h2 b;rw[Nat.testBit_xor,h1,h2,b];by_cases h:i<4
 ·simp[h,show ¬4<=i by omega]
 ·simp[h,show 4<=i by omega]
theorem qsr (q:Nat):E8 (q*16)=q:=by
 unfold E8 st;rw[if_neg (by omega:¬q*16 % 2=1),if_neg (by omega:¬q*16 / 2 % 2=1),if_neg (by omega:¬q*16 / 2 / 2 % 2=1),if_neg (by omega:¬q*16 / 2 / 2 / 2 % 2=1)];omega
theorem qss (r:Nat):E8 r=r / 16 ^^^ E8 (r % 16):=by
 have h:=qwa (r / 16*16) (r % 16);rw[qwb,qsr] at h;exact h
theorem qdj (r:Nat)(l m:List UInt8):Xz r (l++m)=Xz (Xz r l) m:=by unfold Xz;rw[List.foldl_append]
theorem qhi (r:Nat)(l:List UInt8)(c:UInt8):Xz r (l++[c])=by8 (Xz r l) c:=qdj r l [c]
theorem qwc (s:Nat)(l:List UInt8):more s l<4294967296:=by unfold more;omega
theorem qjj {s:Nat}(h:s<4294967296):s ^^^ 4294967295=4294967295-s:=by
 have h1:(4294967295-s)=(BitVec.ofNat 32 s ^^^ BitVec.allOnes 32).toNat:=by
  rw[BitVec.xor_allOnes];simp;omega
 rw[h1,BitVec.toNat_xor];simp;rw[Nat.mod_eq_of_lt h]
