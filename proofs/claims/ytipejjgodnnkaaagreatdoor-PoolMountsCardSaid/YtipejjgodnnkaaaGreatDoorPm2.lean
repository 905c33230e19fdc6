/- Plain facts about a number shifted by a byte and a byte laid under it -/
import Derived.Test.YtipejjgodnnkaaaGreatDoorPm1
import Derived.Test.YtipejjgodnnkaaaGreatDoorRows
import Derived.Lib.SlBytesConst
namespace Go.Proofs.YtipejjgodnnkaaaGreatDoor
open Go Go.RowKit Go.Proofs
set_option maxHeartbeats 400000
theorem q8h (a:Nat)(ha:a<9223372036854775808):(BitVec.ofInt 64 (a:Int)).toNat=a:=by
 rw[BitVec.ofInt_natCast,BitVec.toNat_ofNat];exact Nat.mod_eq_of_lt (by omega)
theorem qew (a b:Nat)(hb:b<256):a*256 ||| b=a*256+b:=by
 have h:=Nat.two_pow_add_eq_or_of_lt (i:=8) (b:=b) (by omega) a
 rw[show (2:Nat) ^ 8=256 from rfl] at h
 rw[Nat.mul_comm];exact h.symm
theorem qr1 (a b:Nat)(ha:a<36028797018963968)(hb:b<256):bits .or .i64 ((a:Int)*256) (b:Int)=((256*a+b:Nat):Int):=by
 show IntKind.i64.wrap ((BitVec.ofInt 64 ((a:Int)*256) ||| BitVec.ofInt 64 (b:Int)).toNat:Int)=_
 rw[show ((a:Int)*256)=((a*256:Nat):Int) by omega,BitVec.toNat_or,q8h _ (by omega),q8h _ (by omega),qew _ _ hb,IntWalk.i64_in _ (by omega)]
 omega
theorem T22:ByteT Tryz.prog 30 5:=⟨Tryz.underlying30,by kernel_rfl⟩
def low (x:Int)(i:Nat):UInt8:=UInt8.ofNat (x / 2 ^ (8*i) % 256).toNat
def dig (x:Int):Nat→List UInt8
 |0=>[]
 |k+1=>low x k::dig x k
theorem q0b (x:Int)(k:Nat):(dig x k).length=k:=by induction k with
 |zero=>rfl
 |succ k ih=>simp[dig,ih]
def part (x:Int)(n k:Nat):List UInt8:=List.replicate (n-k) 0++dig x k
theorem qnz (x:Int)(n k:Nat)(h:k<n):(part x n k).set (n-1-k) (low x k)=part x n (k+1):=by
 unfold part
 have e:n-k=n-(k+1)+1:=by omega
 rw[e,List.replicate_succ',List.append_assoc,List.set_append_right _ _ (by simp;omega)]
 simp[dig,show n-1-k-(n-(k+1))=0 by omega]
theorem qpv (x:Int)(k:Nat):bv (low x k)=.int .u8 (x / 2 ^ (8*k) % 256):=by
 unfold bv low
 rw[UInt8.toNat_ofNat']
 congr 1
 omega
theorem q9w (x m:Int)(w:World)(h1:1≤m)(h8:m≤8) :
  Calls Tryz.prog 202 #[.int .i64 x,.int .i64 m] w fun e w'=>∃A c,e=.returned (.slice A m.toNat c)∧Own w' w.heap.size 5 A m.toNat c (dig x m.toNat)∧Below w.heap.size w w':=by
 obtain⟨n,rfl⟩:=Int.eq_ofNat_of_zero_le (show 0≤m by omega)
 rw[Int.toNat_natCast]
 go_enter Tryz.func202,Tryz.ntmps202
 go_wp2_with (at_make;refine qc8 _ T22 rfl _ _ rfl _ _ n rfl rfl (by omega) ?_)
 intro w1 hown hb
 go_wp2
 go_loopw [11] (fun i wr=>∃k:Nat,k≤n∧i=.int .i64 k∧Own wr w.heap.size 5 (some ⟨w.heap.size,0,none⟩) n n (part x n k)∧Below w.heap.size w wr) (fun i _=>n-(intOf i).toNat)
 case atStart=>exact⟨0,Nat.zero_le _,rfl,by simpa [part,dig] using hown,hb⟩
 case round=>
  obtain⟨k,hk,rfl,hown,hb⟩:=hrel
  by_cases hlt:k<n
  ·obtain⟨hc,hf⟩:=hown.at_ (n-1-k) (by omega)
   have hn:=hown.set_ (n-1-k) (low x k)
   rw[qnz x n k hlt,qpv] at hn
   go_wp2
   exact⟨⟨k+1,by omega,by go_num,hn,hb.setCell (Nat.le_refl _) _⟩,by simp[intOf];omega⟩
  ·obtain rfl:k=n:=by omega
   go_wp2
   go_ret
   refine⟨_,_,rfl,?_,hb⟩
   simpa [part] using hown
theorem q4z (A:Option Addr)(k c:Nat)(ls:List (List UInt8))(w:World)(h:Parts w A k c ls)(hb:tot ls k≤35184372088832) :
  Calls Tryz.prog 201 #[.slice A k c] w fun e w'=>∃A' n' c',e=.returned (.slice A' n' c')∧Own w' w.heap.size 5 A' n' c' (cat ls k)∧Below w.heap.size w w':=by
 have hkc:k≤c:=h.2.1
 have hm:c≤maxLen:=h.2.2.1
 unfold maxLen at hm
 have Hl:=Lib.hid h.len
 go_enter Tryz.func201,Tryz.ntmps201
 go_wp2
 go_loop [3,11] (fun s i=>∃j:Nat,j≤k∧i=.int .i64 j∧s=.int .i64 (tot ls j:Nat)) (fun _ i=>k-(intOf i).toNat)
 case atStart=>exact⟨0,Nat.zero_le _,rfl,by rw[qnj];rfl⟩
 case round=>
  obtain⟨j,hj,rfl,rfl⟩:=hrel
  by_cases hlt:j<k
  ·obtain⟨ad,B,n,d,rfl,hlt1,hcell,hs⟩:=h.cell hlt
   have hle:=qpp ls (j+1) k (by omega)
   have hn:=qg7 ls j (by rw[Hl.out];omega)
   rw[hs.len] at hn
   have Hn:=Lib.hid hn
   rw[hn] at hle
   clear hn
   go_wp2
   exact⟨⟨j+1,by omega,by go_num,by rw[Hn.out];go_num⟩,by simp[intOf];omega⟩
  ·obtain rfl:j=k:=by omega
   go_wp2_with (at_make;refine qc9 _ T22 rfl _ _ rfl _ _ (tot ls j) rfl rfl (by omega) ?_)
   intro w1 hown0 hb0
   go_wp2
   go_loopw [6,24] (fun s i wr=>∃(q:Nat) (A':Option Addr) (n' c':Nat),q≤j∧i=.int .i64 q∧s=.slice A' n' c'∧Own wr w.heap.size 5 A' n' c' (cat ls q)∧Below w.heap.size w wr) (fun _ i _=>j-(intOf i).toNat)
   case atStart=>exact⟨0,_,_,_,Nat.zero_le _,rfl,rfl,by rw[qni];exact hown0,hb0⟩
   case round=>
    obtain⟨q,A',n',c',hq,rfl,rfl,hown,hb1⟩:=hrel
    by_cases hlt2:q<j
    ·have hle:=qpp ls (q+1) j (by omega)
     have hn:=qg7 ls q (by rw[Hl.out];omega)
     obtain⟨ad,B,n,d,rfl,hlt1,hcell,hs⟩:=(h.below hb1).cell hlt2
     rw[hs.len,show tot ls q=n' from hown.len] at hn
     rw[hn] at hle
     clear hn
     go_wp2_with (at_builtin;refine q0x _ T22 rfl _ _ rfl w.heap.size A' n' c' _ rfl hown B n d _ rfl hs (by omega) hb1.size ?_)
     intro A2 c2 w2 hown2 hb2
     rw[←qg6 ls q (by rw[Hl.out];omega)] at hown2
     go_wp2
     exact⟨⟨q+1,_,_,_,by omega,by go_num,rfl,hown2,hb1.trans hb2⟩,by simp[intOf];omega⟩
    ·obtain rfl:q=j:=by omega
     go_wp2
     go_ret
     exact⟨_,_,_,rfl,hown,hb1⟩
def putS (l:List UInt8)(x n:Int):List UInt8:=if 1≤n∧n≤8 then l++dig x n.toNat else l
theorem q8i (A:Option Addr)(k c:Nat)(l:List UInt8)(x n:Int)(w:World)(h:Sl w A k c l)(hk:k≤17592186044416) :
  Calls Tryz.prog 174 #[.slice A k c,.int .i64 x,.int .i64 n] w fun e w'=>∃A' n' c',e=.returned (.slice A' n' c')∧Own w' w.heap.size 5 A' n' c' (putS l x n)∧Below w.heap.size w w':=by
 have hl:=h.len
 have Hl:=Lib.hid hl
 clear hl
 by_cases h1:1≤n
 ·by_cases h8:n≤8
  ·have hp:=Lib.hid (show putS l x n=l++dig x n.toNat from if_pos ⟨h1,h8⟩)
   go_enter Tryz.func174,Tryz.ntmps174
   go_wp2_with (first
    |(go_at_call 202;refine (q9w x n _ h1 h8).mono ?_;rintro e w1 ⟨A1,c1,rfl,hown1,hb1⟩)
    |(go_at_call 201;refine (q4z _ _ _ [l,dig x n.toNat] _ (parts2 30 (h.below hb1) hown1.sl) (by rw[tot2,q0b,Hl.out];omega)).mono ?_;rintro e w2 ⟨A2,n2,c2,rfl,hown2,hb2⟩))
   go_ret
   rw[cat2,←hp.out] at hown2
   have hz:=hb1.size
   exact⟨_,_,_,rfl,hown2.less (by simp;omega),hb1.trans (((Below.refl _ _).alloc hz _).trans (hb2.mono (by simp;omega)))⟩
  ·have hp:=Lib.hid (show putS l x n=l from if_neg (by omega))
   go_enter Tryz.func174,Tryz.ntmps174
   go_wp2_with (go_at_call 201;refine (q4z _ _ _ [l] _ (parts1 30 h) (by rw[tot1,Hl.out];omega)).mono ?_;rintro e w2 ⟨A2,n2,c2,rfl,hown2,hb2⟩)
   go_ret
   rw[cat1] at hown2
   rw[hp.out]
   exact⟨_,_,_,rfl,hown2.less (by simp),(blA).trans (hb2.mono (by simp))⟩
 ·have hp:=Lib.hid (show putS l x n=l from if_neg (by omega))
  go_enter Tryz.func174,Tryz.ntmps174
  go_wp2_with (go_at_call 201;refine (q4z _ _ _ [l] _ (parts1 30 h) (by rw[tot1,Hl.out];omega)).mono ?_;rintro e w2 ⟨A2,n2,c2,rfl,hown2,hb2⟩)
  go_ret
  rw[cat1] at hown2
  rw[hp.out]
  exact⟨_,_,_,rfl,hown2.less (by simp),(blA).trans (hb2.mono (by simp))⟩
theorem qo0 (x:Int)(n j:Nat)(h:j<n):(dig x n).take (j+1)=(dig x n).take j++[low x (n-1-j)]:=by
 induction n generalizing j with
 |zero=>omega
 |succ n ih=>
  rcases j with _|j
  ·simp[dig]
  ·have:=ih j (by omega)
   simp only[dig,List.take_succ_cons,this,List.cons_append]
   rw[show n+1-1-(j+1)=n-1-j by omega]
theorem qr2 (x:Int)(k:Nat)(hk:k≤7):bv (low x k)=.int .u8 (IntKind.u64.wrap x / 2 ^ (8*k) % 256):=by
 rw[qpv,IntKind.wrap_u64]
 congr 1
 have hc:k=0∨k=1∨k=2∨k=3∨k=4∨k=5∨k=6∨k=7:=by omega
 rcases hc with rfl|rfl|rfl|rfl|rfl|rfl|rfl|rfl
 ·rw[show (2:Int) ^ (8*0)=1 by decide];omega
 ·rw[show (2:Int) ^ (8*1)=256 by decide];omega
 ·rw[show (2:Int) ^ (8*2)=65536 by decide];omega
 ·rw[show (2:Int) ^ (8*3)=16777216 by decide];omega
 ·rw[show (2:Int) ^ (8*4)=4294967296 by decide];omega
 ·rw[show (2:Int) ^ (8*5)=1099511627776 by decide];omega
 ·rw[show (2:Int) ^ (8*6)=281474976710656 by decide];omega
 ·rw[show (2:Int) ^ (8*7)=72057594037927936 by decide];omega
def putTo (l:List UInt8)(x:Int)(n j:Nat):List UInt8:=l++(dig x n).take j
theorem qia (l:List UInt8)(x:Int)(n:Nat):putTo l x n 0=l:=by simp[putTo]
theorem qib (l:List UInt8)(x:Int)(n j:Nat)(h:j<n):putTo l x n (j+1)=putTo l x n j++[low x (n-1-j)]:=by
 unfold putTo;rw[qo0 x n j h,List.append_assoc]
theorem qic (l:List UInt8)(x:Int)(m q:Nat)(h:q+1≤m):putTo l x m (m-(q+1))++[low x q]=putTo l x m (m-q):=by
 rw[show m-q=m-(q+1)+1 by omega,qib l x m _ (by omega),show m-1-(m-(q+1))=q by omega]
theorem qkh (l:List UInt8)(x:Int)(n j:Nat)(h:j≤n):(putTo l x n j).length=l.length+j:=by
 unfold putTo;rw[List.length_append,List.length_take,q0b];omega
theorem qki (l:List UInt8)(x:Int)(n:Nat):putTo l x n n=l++dig x n:=by
 unfold putTo;rw[List.take_of_length_le (by rw[q0b];omega)]
theorem q1f (A:Option Addr)(k c:Nat)(l:List UInt8)(x n:Int)(w:World)(h:Sl w A k c l)(hk:k≤17592186044416) :
  Calls Tryz.prog 124 #[.slice A k c,.int .i64 x,.int .i64 n] w fun e w'=>∃A' n' c',e=.returned (.slice A' n' c')∧Own w' w.heap.size 5 A' n' c' (putS l x n)∧Below w.heap.size w w':=by
 have Hl:=Lib.hid h.len
 have h0:Own (w.alloc (.cells #[] 5)) w.heap.size 5 (some ⟨w.heap.size,0,none⟩) 0 0 []:=q11 w 5
 have h':=h.alloc (.cells #[] 5)
 by_cases hn:1≤n∧n≤8
 ·have hp:=Lib.hid (show putS l x n=l++dig x n.toNat from if_pos hn)
  obtain⟨h1,h8⟩:=hn
  obtain⟨m,rfl⟩:=Int.eq_ofNat_of_zero_le (show 0≤n by omega)
  rw[Int.toNat_natCast] at hp
  go_enter Tryz.func124,Tryz.ntmps124
  go_wp2_with (at_builtin;refine q0x _ T22 rfl _ _ rfl w.heap.size _ 0 0 [] rfl h0 A k c l rfl h' (by omega) (by simp) ?_)
  intro A1 c1 w1 hown1 hb1
  have hb1:=q2p _ hb1 (Nat.le_refl _)
  go_wp2
  go_loopw [7,8] (fun o i wr=>∃(t:Nat) (A':Option Addr) (n' c':Nat),t≤m∧i=.int .i64 ((t:Int)-1)∧o=.slice A' n' c'∧Own wr w.heap.size 5 A' n' c' (putTo l x m (m-t))∧Below w.heap.size w wr) (fun _ i _=>(intOf i+1).toNat)
  case atStart=>exact⟨m,_,_,_,Nat.le_refl _,rfl,rfl,by rw[Nat.sub_self,qia];simpa using hown1,hb1⟩
  case round=>
   obtain⟨t,A',n',c',ht,rfl,rfl,hown,hb⟩:=hrel
   rcases t with _|q
   ·rw[show m-0=m from rfl,qki,←hp.out] at hown
    go_wp2
    go_ret
    exact⟨_,_,_,rfl,hown,hb⟩
   ·rw[show (((q+1:Nat):Int)-1)=(q:Int) by omega]
    have hl2:=hown.len
    rw[qkh _ _ _ _ (by omega),Hl.out] at hl2
    have hone:=qej wr 5 (low x q) _ (qr2 x q (by omega))
    have hown':=hown.alloc (.cells #[.int .u8 (IntKind.u64.wrap x / 2 ^ (8*q) % 256)] 5)
    have hn':n'≤17592186044424:=by omega
    clear hl2
    go_wp2_with (at_builtin;refine q0x _ T22 rfl _ _ rfl w.heap.size _ _ _ _ rfl hown' _ _ _ _ rfl hone.sl (by omega) (by have:=hb.size;simp;omega) ?_)
    intro A2 c2 w2 hown2 hb2
    have hb2:=q2p _ hb2 hb.size
    rw[qic l x m q ht] at hown2
    go_wp2
    exact⟨⟨q,_,_,_,by omega,rfl,rfl,hown2,hb.trans hb2⟩,by simp[intOf]⟩
 ·have hp:=Lib.hid (show putS l x n=l from if_neg hn)
  rcases (by omega:n<1∨8<n) with h1|h1
  all_goals
   go_enter Tryz.func124,Tryz.ntmps124
   go_wp2_with (at_builtin;refine q0x _ T22 rfl _ _ rfl w.heap.size _ 0 0 [] rfl h0 A k c l rfl h' (by omega) (by simp) ?_)
   intro A1 c1 w1 hown1 hb1
   have hb1:=q2p _ hb1 (Nat.le_refl _)
   go_wp2
   go_ret
   rw[hp.out]
   exact⟨_,_,_,rfl,by simpa using hown1,hb1⟩
def numL (l:List UInt8):Nat:=l.foldl (fun a b=>256*a+b.toNat) 0
theorem qcw (l:List UInt8)(b:UInt8):numL (l++[b])=256*numL l+b.toNat:=by simp[numL]
theorem q4j (l:List UInt8):numL l<256 ^ l.length:=by
 suffices h:∀n (l:List UInt8),l.length=n→numL l<256 ^ n from h _ l rfl
 intro n
 induction n with
 |zero=>intro l hl;rw[List.eq_nil_of_length_eq_zero hl];simp[numL]
 |succ n ih=>
  intro l hl
  have hne:l≠[]:=by intro e;rw[e] at hl;simp at hl
  have hd:=List.dropLast_concat_getLast hne
  have h1:=ih l.dropLast (by rw[List.length_dropLast];omega)
  have h2:=(l.getLast hne).toNat_lt
  rw[←hd,qcw,Nat.pow_succ]
  omega
theorem qcx (l:List UInt8)(k:Nat)(h:k<l.length):numL (l.take (k+1))=256*numL (l.take k)+byt l k:=by
 rw[qc6 l k h,qcw];have:=q39 l k;simp;omega
theorem q6p (A:Option Addr)(n c:Nat)(l:List UInt8)(w:World)(h:Sl w A n c l)(h7:n≤7) :
  Calls Tryz.prog 211 #[.slice A n c] w fun e w'=>e=.returned (.int .i64 (numL l))∧w=w':=by
 have hc:=h.cap
 have hm:=h.max
 unfold maxLen at hm
 go_enter Tryz.func211,Tryz.ntmps211
 go_wp2
 go_loop [3,8] (fun x i=>∃k:Nat,k≤n∧i=.int .i64 k∧x=.int .i64 (numL (l.take k))) (fun _ i=>n-(intOf i).toNat)
 case atStart=>exact⟨0,Nat.zero_le _,rfl,rfl⟩
 case round=>
  obtain⟨k,hk,rfl,rfl⟩:=hrel
  by_cases hlt:k<n
  ·obtain⟨ad,rfl,hb,hcell⟩:=h.cell hlt
   have hb1:=q39 l k
   have hx':numL (l.take k)<36028797018963968:=by
    have h1:=q4j (l.take k)
    have h2:(256:Nat) ^ (l.take k).length≤256 ^ 6:=Nat.pow_le_pow_right (by omega) (by rw[List.length_take];omega)
    omega
   go_wp2
   refine⟨⟨k+1,by omega,by go_num,?_⟩,by simp[intOf];omega⟩
   have hl:=h.len
   rw[qcx _ _ (by omega),←qr1 _ _ hx' (by omega)]
  ·go_wp2
   go_ret
   exact⟨q6g (by rw[List.take_of_length_le (by have:=h.len;omega)]),rfl⟩
theorem qr3 (w:World)(e:TypeId)(fr:Nat × Nat)(l:List UInt8)(cs:Array Value)(h:cs.toList=l.map bv)(hm:l.length≤16777216):Sl (w.alloc (.cells cs e fr)) (some ⟨w.heap.size,0,none⟩) l.length l.length l:=by
 refine⟨by simp,Nat.le_refl _,by unfold maxLen;omega,fun j u hu=>⟨_,rfl,by simp,?_⟩⟩
 rw[Addr.add_lit,Nat.zero_add,World.cell?_alloc_mark,←hu,←h]
 simp
theorem Sl.one {w:World}{A:Option Addr}{n c:Nat}{l:List UInt8}(h:Sl w A n c l){k:Nat}(hk:k<n):∃ad,A=some ad∧Sl w (some (ad.add k)) 1 (c-k) [UInt8.ofNat (byt l k)]:=by
 obtain⟨ad,rfl,hb,hc⟩:=h.cell hk
 refine⟨ad,rfl,⟨rfl,by have:=h.cap;omega,by have:=h.max;omega,fun j u hu=>?_⟩⟩
 rcases j with _|j
 ·refine⟨_,rfl,by rw[q0n];exact hb,?_⟩
  rw[qg5,Nat.add_zero,hc]
  have hb:=q39 l k
  have e:u=bv (UInt8.ofNat (byt l k)):=by simpa using hu.symm
  rw[e]
  unfold bv
  rw[UInt8.toNat_ofNat',Nat.mod_eq_of_lt (by omega)]
 ·simp at hu
theorem qid (l:List UInt8)(a:Nat):l.foldl (fun a b=>256*a+b.toNat) a=a*256 ^ l.length+numL l:=by
 induction l generalizing a with
 |nil=>simp[numL]
 |cons b l ih=>
  unfold numL
  rw[List.foldl_cons,List.foldl_cons,ih,ih (256*0+b.toNat),List.length_cons,Nat.pow_succ,Nat.add_mul,Nat.add_mul]
  have e:256*a*256 ^ l.length=a*(256 ^ l.length*256):=by rw[Nat.mul_comm 256 a,Nat.mul_assoc,Nat.mul_comm 256]
  omega
theorem qie (b:UInt8)(l:List UInt8):numL (b::l)=b.toNat*256 ^ l.length+numL l:=by
 have h:=qid l (256*0+b.toNat)
 have e:(256*0+b.toNat)*256 ^ l.length=b.toNat*256 ^ l.length:=by rw[Nat.mul_zero,Nat.zero_add]
 rw[e] at h
 exact h
theorem qo1 (u k:Nat):(low (u:Int) k).toNat=u / 256 ^ k % 256:=by
 unfold low
 have e:((u:Int) / 2 ^ (8*k) % 256)=((u / 256 ^ k % 256:Nat):Int):=by
  rw[show (256:Nat) ^ k=2 ^ (8*k) by rw[Nat.pow_mul],Int.natCast_emod,Int.natCast_ediv,Int.natCast_pow]
  rfl
 rw[e,Int.toNat_natCast,UInt8.toNat_ofNat']
 omega
theorem qkj (u k:Nat):numL (dig (u:Int) k)=u % 256 ^ k:=by
 induction k with
 |zero=>simp[dig,numL,Nat.mod_one]
 |succ k ih=>
  rw[dig,qie,q0b,ih,qo1,Nat.mod_pow_succ,Nat.mul_comm]
  omega
structure Kd where
 obj:Int
 kind:Int
 off:Int
def Kd.may (k:Kd):Bool:=decide ((0≤k.obj∧k.obj≤2147483647)∧(0≤k.kind∧k.kind≤255)∧0≤k.off∧k.off≤2147483647)
def Kd.less (a b:Kd):Bool:=if a.obj=b.obj then if a.kind=b.kind then decide (a.off<b.off) else decide (a.kind<b.kind) else decide (a.obj<b.obj)
def Kd.bytes (k:Kd):List UInt8:=dig k.obj 4++(dig k.kind 1++dig k.off 4)
theorem Kd.bytes_len (k:Kd):k.bytes.length=9:=by simp[Kd.bytes,q0b]
theorem q7o (x:Int)(m:Nat)(h0:0≤x)(h1:x<(256 ^ m:Nat)):(numL (dig x m):Int)=x:=by
 obtain⟨u,rfl⟩:=Int.eq_ofNat_of_zero_le h0
 rw[qkj,Nat.mod_eq_of_lt (by omega)]
def Kd.hasNext (k:Kd):Bool:=decide (k.off<2147483647∨k.kind<255∨k.obj<2147483647)
def Kd.next (k:Kd):Kd:=if k.off<2147483647 then ⟨k.obj,k.kind,k.off+1⟩ else if k.kind<255 then ⟨k.obj,k.kind+1,0⟩ else if k.obj<2147483647 then ⟨k.obj+1,0,0⟩ else ⟨0,0,0⟩
theorem Kd.less_iff (a b:Kd):a.less b=true↔a.obj<b.obj∨(a.obj=b.obj∧(a.kind<b.kind∨(a.kind=b.kind∧a.off<b.off))):=by
 unfold Kd.less
 by_cases h1:a.obj=b.obj
 ·by_cases h2:a.kind=b.kind
  ·rw[if_pos h1,if_pos h2,decide_eq_true_iff];omega
  ·rw[if_pos h1,if_neg h2,decide_eq_true_iff];omega
 ·rw[if_neg h1,decide_eq_true_iff];omega
def Kd.same (a b:Kd):Bool:=decide (a.obj=b.obj∧a.kind=b.kind∧a.off=b.off)
theorem Kd.same_iff (a b:Kd):a.same b=true↔a.obj=b.obj∧a.kind=b.kind∧a.off=b.off:=decide_eq_true_iff
theorem Kd.may_iff (k:Kd):k.may=true↔(0≤k.obj∧k.obj≤2147483647)∧(0≤k.kind∧k.kind≤255)∧0≤k.off∧k.off≤2147483647:=decide_eq_true_iff
theorem Kd.last (k o:Kd)(hk:k.may=true)(ho:o.may=true)(hn:k.hasNext=false):o.same k=true∨o.less k=true:=by
 rw[Kd.may_iff] at hk ho
 rw[Kd.less_iff,Kd.same_iff]
 have h:=of_decide_eq_false hn
 omega
theorem Kd.trans (a b c:Kd)(h1:a.less b=true)(h2:b.less c=true):a.less c=true:=by
 rw[Kd.less_iff] at *
 omega
end Go.Proofs.YtipejjgodnnkaaaGreatDoor
