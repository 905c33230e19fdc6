/- The program's Take takes a number off any bytes, or refuses, as P1.1 says, for at most 2 t -/
import Derived.Test.YthkfkhejjmhomaaGreatDoorDb2
import Derived.Deep.RegionWith
import Derived.BigQuiet
import Derived.Deep.QuietTactic
import Derived.Deep.RegionLaw
namespace Go.Proofs.YthkfkhejjmhomaaGreatDoor
open Go Go.RowKit Go.Proofs
set_option maxHeartbeats 1000000
theorem q5b (A:Option Addr)(k c:Nat)(l:List UInt8)(n:Int)(w:World)(h:Sl w A k c l)(T:k<=17592186044416)(h1:1<=n)(P:n<=7)(hn:n<=(k:Int)) :
  Calls Tryz.prog 151 #[.slice A k c,.int .i64 n] w λe F=>∃y E B,e=.returned (.tuple #[.int .i64 (Qw (l.take n.toNat)),.slice y E B,.int .i64 0])/\Own F w.1.size 5 y E B (l.drop n.toNat)/\Below w.1.size w F:=by
 obtain⟨m,rfl⟩:=Int.eq_ofNat_of_zero_le (show 0<=n by omega);rw[Int.toNat_natCast];have R:=h.cap;have hm:=h.max;unfold maxLen at hm;have H:(0:Int)<=(m:Int):=by omega
 have I:(m:Int)<=(c:Int):=by omega
 have J:m<=c:=by omega
 have K:m<=k:=by omega
 have Q:decide ((k:Int)<(m:Int))=false:=by simp;omega
 go_enter Tryz.func151,Tryz.ntmps151
 go_wp2_with fail
 have h2:=h.take (k:=m) (by omega);obtain⟨p,G,D⟩:∃p,(if c=m then A else Option.map (λx=>x.add m) A)=p/\Sl w p (k-m) (c-m) (l.drop m):=⟨_,rfl,h.drop (by omega)⟩;have f:=Lib.hid D.len;go_region_with (first
  |(go_at_call 220;go_loud (refine (q78 _ _ _ (l.take m) _ (by first|exact h2|exact h2.alloc _) (by omega)).mono ?_;rintro e M ⟨rfl,rfl⟩))
  |(go_at_call 177;refine (q4w _ _ _ [l.drop m] _ (by exact Cb (w:=w.drew) 48 D) (by rw[Qan,f.out];omega)).mono ?_;rintro e M ⟨O,U,c1,rfl,d,u⟩))
 all_goals
  go_wp2;go_ret3;rw[Qag] at d;refine⟨_,_,_,rfl,d.less (by simp),?_⟩;exact ((Below.refl w.1.size w).drew.alloc (Nat.le_refl _) _).trans (u.mono (by simp))
theorem qcb (A:Option Addr)(k c:Nat)(n:Int)(w:World)(h1:1<=n)(f:n<=7)(hn:(k:Int)<n) :
  Calls Tryz.prog 151 #[.slice A k c,.int .i64 n] w λe d=>e=.returned (.tuple #[.int .i64 0,.slice none 0 0,.int .i64 2])/\w=d:=by
 go_enter Tryz.func151,Tryz.ntmps151
 go_wp2;go_ret3;exact⟨rfl,rfl⟩
theorem Np {w:World}{A:Option Addr}{n c:Nat}{l:List UInt8}(h:Sl w A n c l):(convert 48 9 (.slice A n c)).run Tryz.prog w=.ok (.string ⟨l.toArray⟩) w:=
 q98 48 9 5 Ig Tryz.underlying5 Tryz.underlying9 h
def Vg (l:List UInt8)(m:Nat):Prop:=m<=l.length/\m+Qw (l.take m)<=l.length
def bodyT (l:List UInt8)(m:Nat):List UInt8:=(l.drop m).take (Qw (l.take m))
def Yg (l:List UInt8)(m:Nat):List UInt8:=l.drop (m+Qw (l.take m))
theorem qk9 (l:List UInt8)(m:Nat):(bodyT l m).length<=l.length:=by unfold bodyT;simp;omega
theorem qka (l:List UInt8)(m:Nat):(Yg l m).length<=l.length:=by unfold Yg;simp
theorem qi2 (A:Option Addr)(k c:Nat)(n:Int)(w:World)(hn:(k:Int)<n) :
  Calls Tryz.prog 223 #[.slice A k c,.int .i64 n] w λe d=>e=.returned (.tuple #[.slice none 0 0,.slice none 0 0,.bool false])/\w=d:=by
 go_enter Tryz.func223,Tryz.ntmps223
 go_wp2;go_ret3;exact⟨rfl,rfl⟩
theorem qqq (A:Option Addr)(k c:Nat)(l:List UInt8)(n:Int)(w:World)(h:Sl w A k c l)(h1:1<=n)(u:n<=6)(hn:n<=(k:Int))(f:k<n.toNat+Qw (l.take n.toNat)) :
  Calls Tryz.prog 223 #[.slice A k c,.int .i64 n] w λe p=>e=.returned (.tuple #[.slice none 0 0,.slice none 0 0,.bool false])/\w=p:=by
 obtain⟨m,rfl⟩:=Int.eq_ofNat_of_zero_le (show 0<=n by omega);rw[Int.toNat_natCast] at f;have y:=h.cap;have hm:=h.max;unfold maxLen at hm;have d:m<=c:=by omega
 have h2:=h.take (k:=m) (by omega);have B:Qw (l.take m)<281474976710656:=by
  have h1:=q77 (l.take m);have h2:(256:Nat) ^ (l.take m).length<=256 ^ 6:=Nat.pow_le_pow_right (by omega) (by rw[List.length_take];omega);omega
 go_enter Tryz.func223,Tryz.ntmps223
 go_wp2_with (go_at_call 220;refine (q78 _ _ _ (l.take m) _ h2 (by omega)).mono ?_;rintro e D ⟨rfl,rfl⟩)
 go_ret3;exact⟨rfl,rfl⟩
theorem qqr (A:Option Addr)(k c:Nat)(l:List UInt8)(n:Int)(w:World)(h:Sl w A k c l)(h1:1<=n)(P:n<=6)(hn:n<=(k:Int))(E:n.toNat+Qw (l.take n.toNat)<=k) :
  Calls Tryz.prog 223 #[.slice A k c,.int .i64 n] w λe D=>∃p G c1 u H c2,e=.returned (.tuple #[.slice p G c1,.slice u H c2,.bool true])/\
   Sl D p G c1 ((l.drop n.toNat).take (Qw (l.take n.toNat)))/\Sl D u H c2 (l.drop (n.toNat+Qw (l.take n.toNat)))/\Below w.1.size w D:=by
 obtain⟨m,rfl⟩:=Int.eq_ofNat_of_zero_le (show 0<=n by omega);rw[Int.toNat_natCast] at E ⊢;have Q:=h.cap;have hm:=h.max;unfold maxLen at hm;have M:m<=c:=by omega
 have h2:=h.take (k:=m) (by omega);generalize F:Qw (l.take m)=v at E ⊢;have I:=Lib.hid F;clear F;have O:m+v<=c:=by omega
 obtain⟨p,K,J⟩:∃p,(if c=m then A else Option.map (λx=>x.add m) A)=p/\Sl w p (k-m) (c-m) (l.drop m):=⟨_,rfl,h.drop (by omega)⟩;obtain⟨u,d,y⟩:∃u,(if c=m+v then A else Option.map (λx=>x.add (m+v)) A)=u/\Sl w u (k-(m+v)) (c-(m+v)) (l.drop (m+v)):=⟨_,rfl,h.drop (by omega)⟩;have B:=J.take (k:=v) (by omega);go_enter Tryz.func223,Tryz.ntmps223
 go_wp2_with (go_at_call 220;refine (q78 _ _ _ (l.take m) _ h2 (by omega)).mono ?_;rw[I.out];rintro e R ⟨rfl,rfl⟩)
 go_quiet (fail)
 go_wp2
 ·have f:c=m+v:=by assumption
  subst f;go_ret3;rw[if_pos rfl] at d;subst d;rw[show m+v-m=v by omega] at B;rw[Nat.sub_self] at y;exact⟨_,_,_,_,_,_,rfl,B,y,q0y (Below.refl _ _) _⟩
 ·have f:¬c=m+v:=by assumption
  go_ret3;rw[if_neg f] at d;subst d;exact⟨_,_,_,_,_,_,rfl,B,y,q0y (Below.refl _ _) _⟩
theorem quq (s:ByteArray)(w:World):(convert 9 48 (.string s)).run Tryz.prog w=.ok (.slice (some ⟨w.1.size,0,none⟩) s.size (grownCap w s.size 0 5)) (Lib.bytesWorld w 5 s):=
 Lib.run_convert_string_bytes w 9 48 5 s Tryz.underlying9 Tryz.underlying48 Tryz.underlying5
theorem q4j (A:Option Addr)(k c:Nat)(l:List UInt8)(s:ByteArray)(w:World)(h:Sl w A k c l)(P:k<=17592186044416)(Q:s.size<=255) :
  Calls Tryz.prog 104 #[.slice A k c,.string s] w λe F=>∃B E D,e=.returned (.tuple #[.slice B E D,.int .i64 0])/\Own F w.1.size 5 B E D (l++(Qy s.size 1++s.data.toList))/\Below w.1.size w F:=by
 have H:=Lib.hid h.len;have y:=quq s;go_enter Tryz.func104,Tryz.ntmps104
 go_wp2_with (go_at_call 178;refine (qbm s.size 1 _ (by omega) (by omega)).mono ?_;rintro e G ⟨M,c1,rfl,m,f⟩)
 have hd:=q67 G 5 s;have I:=qbb G 5 s (by unfold maxLen;omega);have J:=f.size;have K:=hd.size;have p:=m.sl;rw[show Int.toNat 1=1 from rfl] at p;refine (q4w _ _ _ [l,Qy s.size 1,s.data.toList] _ (Qbe 48 ((h.below f).below hd) (p.below hd) I) (by rw[Qc1,Xf,H.out];simp;omega)).mono ?_;rintro e T ⟨O,R,c2,rfl,d,u⟩;go_wp2;go_ret2;rw[Qcs] at d;exact⟨_,_,_,rfl,d.less (by simp;omega),f.trans ((hd.mono J).trans (((Below.refl _ _).alloc (by omega) _).trans (u.mono (by simp;omega))))⟩
theorem qqs (A:Option Addr)(k c:Nat)(l:List UInt8)(n:Int)(w:World)(h:Sl w A k c l)(h1:1<=n)(m:n<=6)(f:¬Vg l n.toNat) :
  Calls Tryz.prog 223 #[.slice A k c,.int .i64 n] w λe p=>e=.returned (.tuple #[.slice none 0 0,.slice none 0 0,.bool false])/\w=p:=by
 have u:=h.len;rcases (by omega:(k:Int)<n\/n<=(k:Int)) with d|d
 ·exact qi2 A k c n w d
 ·refine qqq A k c l n w h h1 m d ?_;unfold Vg at f;rcases Nat.lt_or_ge k (n.toNat+Qw (l.take n.toNat)) with h2|h2
  ·exact h2
  ·exact absurd ⟨by omega,by omega⟩ f
theorem q8h (A:Option Addr)(k c:Nat)(l:List UInt8)(w:World)(h:Sl w A k c l)(d:¬Vg l 1) :
  Calls Tryz.prog 156 #[.slice A k c] w λe m=>e=.returned (.tuple #[.string ⟨#[]⟩,.slice none 0 0,.int .i64 2])/\w=m:=by
 have f:=Lib.hid d;clear d;go_enter Tryz.func156,Tryz.ntmps156
 go_wp2_with (go_at_call 223;refine (qqs _ _ _ l 1 _ h (by omega) (by omega) f.out).mono ?_;rintro e p ⟨rfl,rfl⟩)
 go_ret3;exact⟨rfl,rfl⟩
theorem qqt (A:Option Addr)(k c:Nat)(l:List UInt8)(n:Int)(w:World)(h:Sl w A k c l)(h1:1<=n)(y:n<=6)(B:Vg l n.toNat) :
  Calls Tryz.prog 223 #[.slice A k c,.int .i64 n] w λe d=>∃f p c1 m u c2,e=.returned (.tuple #[.slice f p c1,.slice m u c2,.bool true])/\
   Sl d f p c1 (bodyT l n.toNat)/\Sl d m u c2 (Yg l n.toNat)/\Below w.1.size w d:=by
 have F:=h.len;obtain⟨D,E⟩:=B;exact qqr A k c l n w h h1 y (by omega) (by omega)
theorem q6n (A:Option Addr)(k c:Nat)(l:List UInt8)(w:World)(h:Sl w A k c l)(W:k<=17592186044416)(G:Vg l 1) :
  Calls Tryz.prog 156 #[.slice A k c] w λe H=>∃y B c2,e=.returned (.tuple #[.string ⟨(bodyT l 1).toArray⟩,.slice y B c2,.int .i64 0])/\
   Own H w.1.size 5 y B c2 (Yg l 1)/\Below w.1.size w H:=by
 have J:=Lib.hid h.len;have K:=Lib.hid G;clear G;have D:=qk9 l 1;have E:=qka l 1;go_enter Tryz.func156,Tryz.ntmps156
 go_wp2_with (go_at_call 223;refine (qqt _ _ _ l 1 _ h (by omega) (by omega) K.out).mono ?_;rintro e f ⟨I,R,c1,y,B,c2,rfl,h1,h2,p⟩)
 rw[show Int.toNat 1=1 from rfl] at h1 h2;have Q:=p.size;have M:=Np (w:=f.drew) h1;have O:∀o,(convert 48 9 (.slice I R c1)).run Tryz.prog (f.alloc o).drew=.ok (.string ⟨(bodyT l 1).toArray⟩) (f.alloc o).drew:=λo=>Np (w:=(f.alloc o).drew) (h1.alloc o)
 have F:(Yg l 1).length<=17592186044416:=by have:=J.out;omega
 go_region_with (go_at_call 177;refine (q4w _ _ _ [Yg l 1] _ (by first|exact Cb (w:=f) 48 h2|exact Cb (w:=f.drew) 48 h2) (by rw[Qan];omega)).mono ?_;rintro e T ⟨U,X,c3,rfl,d,u⟩;have m:Below f.1.size f T:=(by first|exact ((Below.refl _ f).alloc (Nat.le_refl _) _).drew.trans (u.mono (by simp))|exact ((Below.refl _ f).drew.alloc (Nat.le_refl _) _).trans (u.mono (by simp)));have P:=Np (h1.below m))
 all_goals
  go_wp2;go_ret3;rw[Qag] at d;exact⟨_,_,_,rfl,d.less (by simp;omega),p.trans (m.mono Q)⟩
def Qh (n:Nat):Nat:=(n+117) / 118
theorem qcc (x:Int)(n:Nat)(f:x=(n:Int))(hn:n<=100000)(k:Nat)(d:Qh n=k)(w:World) :
  Calls Tryz.prog 152 #[.int .i64 x] w λe m=>e=.returned (.tuple #[.int .i64 (k:Int),.int .i64 (2+2*(k:Int))])/\w=m:=by
 subst f;unfold Qh at d;have h1:((n:Int)+118-1).tdiv 118=(k:Int):=by
  rw[Int.tdiv_eq_ediv_of_nonneg (by omega)];omega
 have h2:(k:Int)<=1000:=by omega
 clear d;go_enter Tryz.func152,Tryz.ntmps152
 go_wp2;go_ret2;exact⟨rfl,rfl⟩
