/- The plain numbers of CRC-32C: a step is linear and one to one; four steps are one look-up -/
import Derived.Lib.Hide
namespace Go.Proofs.YtipejjgodnnkaaaGreatDoor
open Go Go.RowKit Go.Proofs
def st (r:Nat):Nat:=if r % 2=1 then (r / 2) ^^^ 2197175160 else r / 2
def st4 (r:Nat):Nat:=st (st (st (st r)))
def st8 (r:Nat):Nat:=st4 (st4 r)
def by8 (r:Nat)(b:UInt8):Nat:=st8 (r ^^^ b.toNat)
def crcRun (r:Nat)(l:List UInt8):Nat:=l.foldl by8 r
def more (s:Nat)(l:List UInt8):Nat:=4294967295-crcRun (4294967295-s) l
theorem qg2 {a b:Nat}(ha:a<4294967296)(hb:b<4294967296):a ^^^ b<4294967296:=Nat.xor_lt_two_pow (n:=32) ha hb
theorem qjo {r:Nat}(h:r<4294967296):st r<4294967296:=by
 unfold st
 split
 ·exact qg2 (by omega) (by decide)
 ·omega
theorem qg3 {r:Nat}(h:r<4294967296):st4 r<4294967296:=qjo (qjo (qjo (qjo h)))
theorem qsm {r:Nat}(h:r<4294967296):st8 r<4294967296:=qg3 (qg3 h)
theorem qsn {r:Nat}(b:UInt8)(h:r<4294967296):by8 r b<4294967296:=qsm (qg2 h (by have:=b.toNat_lt;omega))
theorem qc5 {r:Nat}(l:List UInt8)(h:r<4294967296):crcRun r l<4294967296:=by
 induction l generalizing r with
 |nil=>exact h
 |cons b l ih=>exact ih (qsn b h)
theorem qne (a b:Nat):(a ^^^ b) % 2=(a % 2+b % 2) % 2:=by
 have h:=Nat.testBit_xor a b 0
 rw[Nat.testBit_zero,Nat.testBit_zero,Nat.testBit_zero] at h
 have hx:=Nat.mod_two_eq_zero_or_one (a ^^^ b)
 rcases Nat.mod_two_eq_zero_or_one a with h1|h1<;>rcases Nat.mod_two_eq_zero_or_one b with h2|h2<;>rcases hx with h3|h3<;>rw[h1,h2,h3] at h<;>rw[h1,h2,h3]<;>revert h<;>decide
theorem qnf (a b:Nat):(a ^^^ b) / 2=a / 2 ^^^ b / 2:=by
 apply Nat.eq_of_testBit_eq
 intro i
 rw[Nat.testBit_xor,←Nat.testBit_succ,←Nat.testBit_succ,←Nat.testBit_succ,Nat.testBit_xor]
theorem qg4 (a b:Nat):st (a ^^^ b)=st a ^^^ st b:=by
 unfold st
 rw[qne,qnf]
 rcases Nat.mod_two_eq_zero_or_one a with ha|ha<;>rcases Nat.mod_two_eq_zero_or_one b with hb|hb<;>simp[ha,hb]
 ·rw[Nat.xor_assoc]
 ·rw[Nat.xor_assoc,Nat.xor_assoc,Nat.xor_comm (b / 2)]
 ·rw[Nat.xor_assoc,Nat.xor_comm 2197175160,Nat.xor_assoc,Nat.xor_self,Nat.xor_zero]
theorem qqk (a b:Nat):st4 (a ^^^ b)=st4 a ^^^ st4 b:=by unfold st4;rw[qg4,qg4,qg4,qg4]
theorem qql (r:Nat):r / 16*16 ^^^ r % 16=r:=by
 apply Nat.eq_of_testBit_eq
 intro i
 have h1:=Nat.testBit_mul_two_pow (r / 16) (i:=4) (j:=i)
 have h2:=Nat.testBit_mod_two_pow r 4 i
 have h3:=Nat.testBit_div_two_pow (n:=4) r (i-4)
 rw[show (2:Nat) ^ 4=16 from rfl] at h1 h2 h3
 rw[Nat.testBit_xor,h1,h2,h3]
 by_cases h:i<4
 ·simp[h,show ¬4≤i by omega]
 ·simp[h,show 4≤i by omega]
theorem qng (q:Nat):st4 (q*16)=q:=by
 unfold st4 st
 rw[if_neg (by omega:¬q*16 % 2=1),if_neg (by omega:¬q*16 / 2 % 2=1),if_neg (by omega:¬q*16 / 2 / 2 % 2=1),if_neg (by omega:¬q*16 / 2 / 2 / 2 % 2=1)]
 omega
theorem qnh (r:Nat):st4 r=r / 16 ^^^ st4 (r % 16):=by
 have h:=qqk (r / 16*16) (r % 16)
 rw[qql,qng] at h
 exact h
theorem qar (r:Nat)(l m:List UInt8):crcRun r (l++m)=crcRun (crcRun r l) m:=by unfold crcRun;rw[List.foldl_append]
theorem qeh (r:Nat)(l:List UInt8)(c:UInt8):crcRun r (l++[c])=by8 (crcRun r l) c:=qar r l [c]
theorem qas (s:Nat)(l:List UInt8):more s l<4294967296:=by unfold more;omega
theorem q7f {s:Nat}(h:s<4294967296):s ^^^ 4294967295=4294967295-s:=by
 have h1:(4294967295-s)=(BitVec.ofNat 32 s ^^^ BitVec.allOnes 32).toNat:=by
  rw[BitVec.xor_allOnes];simp;omega
 rw[h1,BitVec.toNat_xor]
 simp
 rw[Nat.mod_eq_of_lt h]
end Go.Proofs.YtipejjgodnnkaaaGreatDoor
