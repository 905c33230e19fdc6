/- The program's Take takes a number off any bytes, or refuses, as P1.1 says, for at most 2 t -/
import Derived.Test.YthkfkhejjmhomaaGreatDoorDz2
import Derived.Deep.RegionWith
import Derived.BigQuiet
import Derived.Deep.QuietTactic
import Derived.Deep.RegionLaw
namespace Go.Proofs.YthkfkhejjmhomaaGreatDoor
open Go Go.RowKit Go.Proofs
set_option maxHeartbeats 1000000
theorem Qby (A:Option Addr)(k c:Nat)(l:List UInt8)(n:Int)(w:World)(h:Sl w A k c l)(P:k<=17592186044416)(h1:1<=n)(K:n<=7)(hn:n<=(k:Int)) :
  Calls Tryz.prog 151 #[.slice A k c,.int .i64 n] w λe B=>∃q z u,e=.returned (.tuple #[.int .i64 (Zo (l.take n.toNat)),.slice q z u,.int .i64 0])/\Own B w.1.size 5 q z u (l.drop n.toNat)/\Below w.1.size w B:=by
 obtain⟨m,rfl⟩:=Int.eq_ofNat_of_zero_le (show 0<=n by omega);rw[Int.toNat_natCast];have O:=h.cap;have hm:=h.max;unfold maxLen at hm;have E:(0:Int)<=(m:Int):=by omega
 have F:(m:Int)<=(c:Int):=by omega
 have G:m<=c:=by omega
 have H:m<=k:=by omega
 have M:decide ((k:Int)<(m:Int))=false:=by simp;omega
 go_enter Tryz.func151,Tryz.ntmps151
 go_wp2_with fail
 have h2:=h.take (k:=m) (by omega);obtain⟨g,D,y⟩:∃g,(if c=m then A else Option.map (λx=>x.add m) A)=g/\Sl w g (k-m) (c-m) (l.drop m):=⟨_,rfl,h.drop (by omega)⟩;have f:=Lib.hid y.len;go_region_with (first
  |(go_at_call 220;go_loud (refine (Qep _ _ _ (l.take m) _ (by first|exact h2|exact h2.alloc _) (by omega)).mono ?_;rintro e I ⟨rfl,rfl⟩))
  |(go_at_call 177;refine (Qbp _ _ _ [l.drop m] _ (by exact Qji (w:=w.drew) 48 y) (by rw[Zdm,f.out];omega)).mono ?_;rintro e I ⟨J,Q,c1,rfl,d,p⟩))
 all_goals
  go_wp2;go_ret3;rw[Zb4] at d;refine⟨_,_,_,rfl,d.less (by simp),?_⟩;exact ((Below.refl w.1.size w).drew.alloc (Nat.le_refl _) _).trans (p.mono (by simp))
theorem Qj6 (A:Option Addr)(k c:Nat)(n:Int)(w:World)(h1:1<=n)(f:n<=7)(hn:(k:Int)<n) :
  Calls Tryz.prog 151 #[.slice A k c,.int .i64 n] w λe d=>e=.returned (.tuple #[.int .i64 0,.slice none 0 0,.int .i64 2])/\w=d:=by
 go_enter Tryz.func151,Tryz.ntmps151
 go_wp2;go_ret3;exact⟨rfl,rfl⟩
theorem Qtn {w:World}{A:Option Addr}{n c:Nat}{l:List UInt8}(h:Sl w A n c l):(convert 48 9 (.slice A n c)).run Tryz.prog w=.ok (.string ⟨l.toArray⟩) w:=
 Qhh 48 9 5 T22 Tryz.underlying5 Tryz.underlying9 h
def Qbz (l:List UInt8)(m:Nat):Prop:=m<=l.length/\m+Zo (l.take m)<=l.length
def bodyT (l:List UInt8)(m:Nat):List UInt8:=(l.drop m).take (Zo (l.take m))
def Kw (l:List UInt8)(m:Nat):List UInt8:=l.drop (m+Zo (l.take m))
theorem Qnq (l:List UInt8)(m:Nat):(bodyT l m).length<=l.length:=by unfold bodyT;simp;omega
theorem Qp3 (l:List UInt8)(m:Nat):(Kw l m).length<=l.length:=by unfold Kw;simp
theorem Qp9 (A:Option Addr)(k c:Nat)(n:Int)(w:World)(hn:(k:Int)<n) :
  Calls Tryz.prog 223 #[.slice A k c,.int .i64 n] w λe d=>e=.returned (.tuple #[.slice none 0 0,.slice none 0 0,.bool false])/\w=d:=by
 go_enter Tryz.func223,Tryz.ntmps223
 go_wp2;go_ret3;exact⟨rfl,rfl⟩
theorem Qwz (A:Option Addr)(k c:Nat)(l:List UInt8)(n:Int)(w:World)(h:Sl w A k c l)(h1:1<=n)(p:n<=6)(hn:n<=(k:Int))(f:k<n.toNat+Zo (l.take n.toNat)) :
  Calls Tryz.prog 223 #[.slice A k c,.int .i64 n] w λe g=>e=.returned (.tuple #[.slice none 0 0,.slice none 0 0,.bool false])/\w=g:=by
 obtain⟨m,rfl⟩:=Int.eq_ofNat_of_zero_le (show 0<=n by omega);rw[Int.toNat_natCast] at f;have q:=h.cap;have hm:=h.max;unfold maxLen at hm;have d:m<=c:=by omega
 have h2:=h.take (k:=m) (by omega);have u:Zo (l.take m)<281474976710656:=by
  have h1:=Qdr (l.take m);have h2:(256:Nat) ^ (l.take m).length<=256 ^ 6:=Nat.pow_le_pow_right (by omega) (by rw[List.length_take];omega);omega
 go_enter Tryz.func223,Tryz.ntmps223
 go_wp2_with (go_at_call 220;refine (Qep _ _ _ (l.take m) _ h2 (by omega)).mono ?_;rintro e y ⟨rfl,rfl⟩)
 go_ret3;exact⟨rfl,rfl⟩
theorem Qw0 (A:Option Addr)(k c:Nat)(l:List UInt8)(n:Int)(w:World)(h:Sl w A k c l)(h1:1<=n)(K:n<=6)(hn:n<=(k:Int))(z:n.toNat+Zo (l.take n.toNat)<=k) :
  Calls Tryz.prog 223 #[.slice A k c,.int .i64 n] w λe y=>∃g D c1 p E c2,e=.returned (.tuple #[.slice g D c1,.slice p E c2,.bool true])/\
   Sl y g D c1 ((l.drop n.toNat).take (Zo (l.take n.toNat)))/\Sl y p E c2 (l.drop (n.toNat+Zo (l.take n.toNat)))/\Below w.1.size w y:=by
 obtain⟨m,rfl⟩:=Int.eq_ofNat_of_zero_le (show 0<=n by omega);rw[Int.toNat_natCast] at z ⊢;have M:=h.cap;have hm:=h.max;unfold maxLen at hm;have I:m<=c:=by omega
 have h2:=h.take (k:=m) (by omega);generalize B:Zo (l.take m)=v at z ⊢;have F:=Lib.hid B;clear B;have J:m+v<=c:=by omega
 obtain⟨g,H,G⟩:∃g,(if c=m then A else Option.map (λx=>x.add m) A)=g/\Sl w g (k-m) (c-m) (l.drop m):=⟨_,rfl,h.drop (by omega)⟩;obtain⟨p,d,q⟩:∃p,(if c=m+v then A else Option.map (λx=>x.add (m+v)) A)=p/\Sl w p (k-(m+v)) (c-(m+v)) (l.drop (m+v)):=⟨_,rfl,h.drop (by omega)⟩;have u:=G.take (k:=v) (by omega);go_enter Tryz.func223,Tryz.ntmps223
 go_wp2_with (go_at_call 220;refine (Qep _ _ _ (l.take m) _ h2 (by omega)).mono ?_;rw[F.out];rintro e O ⟨rfl,rfl⟩)
 go_quiet (fail)
 go_wp2
 ·have f:c=m+v:=by assumption
  subst f;go_ret3;rw[if_pos rfl] at d;subst d;rw[show m+v-m=v by omega] at u;rw[Nat.sub_self] at q;exact⟨_,_,_,_,_,_,rfl,u,q,below_drewN (Below.refl _ _) _⟩
 ·have f:¬c=m+v:=by assumption
  go_ret3;rw[if_neg f] at d;subst d;exact⟨_,_,_,_,_,_,rfl,u,q,below_drewN (Below.refl _ _) _⟩
theorem Zba (s:ByteArray)(w:World):(convert 9 48 (.string s)).run Tryz.prog w=.ok (.slice (some ⟨w.1.size,0,none⟩) s.size (grownCap w s.size 0 5)) (Lib.bytesWorld w 5 s):=
 Lib.run_convert_string_bytes w 9 48 5 s Tryz.underlying9 Tryz.underlying48 Tryz.underlying5
theorem Qf1 (A:Option Addr)(k c:Nat)(l:List UInt8)(s:ByteArray)(w:World)(h:Sl w A k c l)(J:k<=17592186044416)(K:s.size<=255) :
  Calls Tryz.prog 104 #[.slice A k c,.string s] w λe B=>∃u z y,e=.returned (.tuple #[.slice u z y,.int .i64 0])/\Own B w.1.size 5 u z y (l++(Zw s.size 1++s.data.toList))/\Below w.1.size w B:=by
 have Hl:=Lib.hid h.len;have q:=Zba s;go_enter Tryz.func104,Tryz.ntmps104
 go_wp2_with (go_at_call 178;refine (Qif s.size 1 _ (by omega) (by omega)).mono ?_;rintro e D ⟨H,c1,rfl,g,f⟩)
 have hd:=Qd7 D 5 s;have E:=Qjy D 5 s (by unfold maxLen;omega);have F:=f.size;have G:=hd.size;have m:=g.sl;rw[show Int.toNat 1=1 from rfl] at m;refine (Qbp _ _ _ [l,Zw s.size 1,s.data.toList] _ (Zey 48 ((h.below f).below hd) (m.below hd) E) (by rw[Zgg,Ye,Hl.out];simp;omega)).mono ?_;rintro e O ⟨I,M,c2,rfl,d,p⟩;go_wp2;go_ret2;rw[Zf9] at d;exact⟨_,_,_,rfl,d.less (by simp;omega),f.trans ((hd.mono F).trans (((Below.refl _ _).alloc (by omega) _).trans (p.mono (by simp;omega))))⟩
theorem Qxc (A:Option Addr)(k c:Nat)(l:List UInt8)(n:Int)(w:World)(h:Sl w A k c l)(h1:1<=n)(g:n<=6)(f:¬Qbz l n.toNat) :
  Calls Tryz.prog 223 #[.slice A k c,.int .i64 n] w λe m=>e=.returned (.tuple #[.slice none 0 0,.slice none 0 0,.bool false])/\w=m:=by
 have p:=h.len;rcases (by omega:(k:Int)<n\/n<=(k:Int)) with d|d
 ·exact Qp9 A k c n w d
 ·refine Qwz A k c l n w h h1 g d ?_;unfold Qbz at f;rcases Nat.lt_or_ge k (n.toNat+Zo (l.take n.toNat)) with h2|h2
  ·exact h2
  ·exact absurd ⟨by omega,by omega⟩ f
theorem Qf2 (A:Option Addr)(k c:Nat)(l:List UInt8)(w:World)(h:Sl w A k c l)(d:¬Qbz l 1) :
  Calls Tryz.prog 156 #[.slice A k c] w λe f=>e=.returned (.tuple #[.string ⟨#[]⟩,.slice none 0 0,.int .i64 2])/\w=f:=by
 have Hw:=Lib.hid d;clear d;go_enter Tryz.func156,Tryz.ntmps156
 go_wp2_with (go_at_call 223;refine (Qxc _ _ _ l 1 _ h (by omega) (by omega) Hw.out).mono ?_;rintro e g ⟨rfl,rfl⟩)
 go_ret3;exact⟨rfl,rfl⟩
theorem Qxd (A:Option Addr)(k c:Nat)(l:List UInt8)(n:Int)(w:World)(h:Sl w A k c l)(h1:1<=n)(q:n<=6)(u:Qbz l n.toNat) :
  Calls Tryz.prog 223 #[.slice A k c,.int .i64 n] w λe d=>∃f m c1 g p c2,e=.returned (.tuple #[.slice f m c1,.slice g p c2,.bool true])/\
   Sl d f m c1 (bodyT l n.toNat)/\Sl d g p c2 (Kw l n.toNat)/\Below w.1.size w d:=by
 have B:=h.len;obtain⟨y,z⟩:=u;exact Qw0 A k c l n w h h1 q (by omega) (by omega)
theorem Qec (A:Option Addr)(k c:Nat)(l:List UInt8)(w:World)(h:Sl w A k c l)(P:k<=17592186044416)(D:Qbz l 1) :
  Calls Tryz.prog 156 #[.slice A k c] w λe E=>∃q u c2,e=.returned (.tuple #[.string ⟨(bodyT l 1).toArray⟩,.slice q u c2,.int .i64 0])/\
   Own E w.1.size 5 q u c2 (Kw l 1)/\Below w.1.size w E:=by
 have Hl:=Lib.hid h.len;have Hw:=Lib.hid D;clear D;have y:=Qnq l 1;have z:=Qp3 l 1;go_enter Tryz.func156,Tryz.ntmps156
 go_wp2_with (go_at_call 223;refine (Qxd _ _ _ l 1 _ h (by omega) (by omega) Hw.out).mono ?_;rintro e f ⟨F,K,c1,q,u,c2,rfl,h1,h2,m⟩)
 rw[show Int.toNat 1=1 from rfl] at h1 h2;have J:=m.size;have G:=Qtn (w:=f.drew) h1;have H:∀o,(convert 48 9 (.slice F K c1)).run Tryz.prog (f.alloc o).drew=.ok (.string ⟨(bodyT l 1).toArray⟩) (f.alloc o).drew:=λo=>Qtn (w:=(f.alloc o).drew) (h1.alloc o)
 have B:(Kw l 1).length<=17592186044416:=by have:=Hl.out;omega
 go_region_with (go_at_call 177;refine (Qbp _ _ _ [Kw l 1] _ (by first|exact Qji (w:=f) 48 h2|exact Qji (w:=f.drew) 48 h2) (by rw[Zdm];omega)).mono ?_;rintro e M ⟨O,Q,c3,rfl,d,p⟩;have g:Below f.1.size f M:=(by first|exact ((Below.refl _ f).alloc (Nat.le_refl _) _).drew.trans (p.mono (by simp))|exact ((Below.refl _ f).drew.alloc (Nat.le_refl _) _).trans (p.mono (by simp)));have I:=Qtn (h1.below g))
 all_goals
  go_wp2;go_ret3;rw[Zb4] at d;exact⟨_,_,_,rfl,d.less (by simp;omega),m.trans (g.mono J)⟩
def Qi (n:Nat):Nat:=(n+117) / 118
theorem Qkd (x:Int)(n:Nat)(f:x=(n:Int))(hn:n<=100000)(k:Nat)(d:Qi n=k)(w:World) :
  Calls Tryz.prog 152 #[.int .i64 x] w λe g=>e=.returned (.tuple #[.int .i64 (k:Int),.int .i64 (2+2*(k:Int))])/\w=g:=by
 subst f;unfold Qi at d;have h1:((n:Int)+118-1).tdiv 118=(k:Int):=by
  rw[Int.tdiv_eq_ediv_of_nonneg (by omega)];omega
 have h2:(k:Int)<=1000:=by omega
 clear d;go_enter Tryz.func152,Tryz.ntmps152
 go_wp2;go_ret2;exact⟨rfl,rfl⟩
