/- The program's Take takes a number off any bytes, or refuses, as P1.1 says, for at most 2 t -/
import Derived.Test.YthkfkhejjmhomaaGreatDoorEs2
import Derived.Deep.RegionWith
import Derived.BigQuiet
import Derived.Deep.QuietTactic
import Derived.Deep.RegionLaw
namespace Go.Proofs.YthkfkhejjmhomaaGreatDoor
open Go Go.RowKit Go.Proofs
set_option maxHeartbeats 1000000
theorem q7f (A:Option Addr)(k c:Nat)(l:List UInt8)(n:Int)(w:World)(h:Sl w A k c l)(R:k<=17592186044416)(h1:1<=n)(O:n<=7)(hn:n<=(k:Int)) :
  Calls Tryz.prog 151 #[.slice A k c,.int .i64 n] w λe E=>∃u D y,e=.returned (.tuple #[.int .i64 (Za (l.take n.toNat)),.slice u D y,.int .i64 0])/\Own E w.1.size 5 u D y (l.drop n.toNat)/\Below w.1.size w E:=by
 obtain⟨m,rfl⟩:=Int.eq_ofNat_of_zero_le (show 0<=n by omega);rw[Int.toNat_natCast];have Q:=h.cap;have hm:=h.max;unfold maxLen at hm;have G:(0:Int)<=(m:Int):=by omega
 have H:(m:Int)<=(c:Int):=by omega
 have I:m<=c:=by omega
 have J:m<=k:=by omega
 have P:decide ((k:Int)<(m:Int))=false:=by simp;omega
 go_enter Tryz.func151,Tryz.ntmps151
 go_wp2_with fail
 have h2:=h.take (k:=m) (by omega);obtain⟨f,F,B⟩:∃f,(if c=m then A else Option.map (λx=>x.add m) A)=f/\Sl w f (k-m) (c-m) (l.drop m):=⟨_,rfl,h.drop (by omega)⟩;have d:=Lib.hid B.len;go_region_with (first
  |(go_at_call 220;go_loud (refine (q81 _ _ _ (l.take m) _ (by first|exact h2|exact h2.alloc _) (by omega)).mono ?_;rintro e K ⟨rfl,rfl⟩))
  |(go_at_call 177;refine (q5h _ _ _ [l.drop m] _ (by exact Bj (w:=w.drew) 48 B) (by rw[Qa2,d.out];omega)).mono ?_;rintro e K ⟨M,T,c1,rfl,b,p⟩))
 all_goals
  go_wp2;go_ret3;rw[Qar] at b;refine⟨_,_,_,rfl,b.less (by simp),?_⟩;exact ((Below.refl w.1.size w).drew.alloc (Nat.le_refl _) _).trans (p.mono (by simp))
theorem qnv (A:Option Addr)(k c:Nat)(n:Int)(w:World)(h1:1<=n)(d:n<=7)(hn:(k:Int)<n) :
  Calls Tryz.prog 151 #[.slice A k c,.int .i64 n] w λe b=>e=.returned (.tuple #[.int .i64 0,.slice none 0 0,.int .i64 2])/\w=b:=by
 go_enter Tryz.func151,Tryz.ntmps151
 go_wp2;go_ret3;exact⟨rfl,rfl⟩
theorem Oa {w:World}{A:Option Addr}{n c:Nat}{l:List UInt8}(h:Sl w A n c l):(convert 48 9 (.slice A n c)).run Tryz.prog w=.ok (.string ⟨l.toArray⟩) w:=
 q67 48 9 5 Az Tryz.underlying5 Tryz.underlying9 h
def Gs (l:List UInt8)(m:Nat):Prop:=m<=l.length/\m+Za (l.take m)<=l.length
def bodyT (l:List UInt8)(m:Nat):List UInt8:=(l.drop m).take (Za (l.take m))
def Uy (l:List UInt8)(m:Nat):List UInt8:=l.drop (m+Za (l.take m))
theorem qld (l:List UInt8)(m:Nat):(bodyT l m).length<=l.length:=by unfold bodyT;simp;omega
theorem qvc (l:List UInt8)(m:Nat):(Uy l m).length<=l.length:=by unfold Uy;simp
theorem qj9 (A:Option Addr)(k c:Nat)(n:Int)(w:World)(hn:(k:Int)<n) :
  Calls Tryz.prog 223 #[.slice A k c,.int .i64 n] w λe b=>e=.returned (.tuple #[.slice none 0 0,.slice none 0 0,.bool false])/\w=b:=by
 go_enter Tryz.func223,Tryz.ntmps223
 go_wp2;go_ret3;exact⟨rfl,rfl⟩
theorem qs3 (A:Option Addr)(k c:Nat)(l:List UInt8)(n:Int)(w:World)(h:Sl w A k c l)(h1:1<=n)(p:n<=6)(hn:n<=(k:Int))(d:k<n.toNat+Za (l.take n.toNat)) :
  Calls Tryz.prog 223 #[.slice A k c,.int .i64 n] w λe f=>e=.returned (.tuple #[.slice none 0 0,.slice none 0 0,.bool false])/\w=f:=by
 obtain⟨m,rfl⟩:=Int.eq_ofNat_of_zero_le (show 0<=n by omega);rw[Int.toNat_natCast] at d;have u:=h.cap;have hm:=h.max;unfold maxLen at hm;have b:m<=c:=by omega
 have h2:=h.take (k:=m) (by omega);have y:Za (l.take m)<281474976710656:=by
  have h1:=q80 (l.take m);have h2:(256:Nat) ^ (l.take m).length<=256 ^ 6:=Nat.pow_le_pow_right (by omega) (by rw[List.length_take];omega);omega
 go_enter Tryz.func223,Tryz.ntmps223
 go_wp2_with (go_at_call 220;refine (q81 _ _ _ (l.take m) _ h2 (by omega)).mono ?_;rintro e B ⟨rfl,rfl⟩)
 go_ret3;exact⟨rfl,rfl⟩
theorem qs4 (A:Option Addr)(k c:Nat)(l:List UInt8)(n:Int)(w:World)(h:Sl w A k c l)(h1:1<=n)(O:n<=6)(hn:n<=(k:Int))(D:n.toNat+Za (l.take n.toNat)<=k) :
  Calls Tryz.prog 223 #[.slice A k c,.int .i64 n] w λe B=>∃f F c1 p G c2,e=.returned (.tuple #[.slice f F c1,.slice p G c2,.bool true])/\
   Sl B f F c1 ((l.drop n.toNat).take (Za (l.take n.toNat)))/\Sl B p G c2 (l.drop (n.toNat+Za (l.take n.toNat)))/\Below w.1.size w B:=by
 obtain⟨m,rfl⟩:=Int.eq_ofNat_of_zero_le (show 0<=n by omega);rw[Int.toNat_natCast] at D ⊢;have P:=h.cap;have hm:=h.max;unfold maxLen at hm;have K:m<=c:=by omega
 have h2:=h.take (k:=m) (by omega);generalize E:Za (l.take m)=v at D ⊢;have H:=Lib.hid E;clear E;have M:m+v<=c:=by omega
 obtain⟨f,J,I⟩:∃f,(if c=m then A else Option.map (λx=>x.add m) A)=f/\Sl w f (k-m) (c-m) (l.drop m):=⟨_,rfl,h.drop (by omega)⟩;obtain⟨p,b,u⟩:∃p,(if c=m+v then A else Option.map (λx=>x.add (m+v)) A)=p/\Sl w p (k-(m+v)) (c-(m+v)) (l.drop (m+v)):=⟨_,rfl,h.drop (by omega)⟩;have y:=I.take (k:=v) (by omega);go_enter Tryz.func223,Tryz.ntmps223
 go_wp2_with (go_at_call 220;refine (q81 _ _ _ (l.take m) _ h2 (by omega)).mono ?_;rw[H.out];rintro e Q ⟨rfl,rfl⟩)
 go_quiet (fail)
 go_wp2
 ·have d:c=m+v:=by assumption
  subst d;go_ret3;rw[if_pos rfl] at b;subst b;rw[show m+v-m=v by omega] at y;rw[Nat.sub_self] at u;exact⟨_,_,_,_,_,_,rfl,y,u,q1f (Below.refl _ _) _⟩
 ·have d:¬c=m+v:=by assumption
  go_ret3;rw[if_neg d] at b;subst b;exact⟨_,_,_,_,_,_,rfl,y,u,q1f (Below.refl _ _) _⟩
theorem qvd (s:ByteArray)(w:World):(convert 9 48 (.string s)).run Tryz.prog w=.ok (.slice (some ⟨w.1.size,0,none⟩) s.size (grownCap w s.size 0 5)) (Lib.bytesWorld w 5 s):=
 Lib.run_convert_string_bytes w 9 48 5 s Tryz.underlying9 Tryz.underlying48 Tryz.underlying5
theorem qh7 (A:Option Addr)(k c:Nat)(l:List UInt8)(s:ByteArray)(w:World)(h:Sl w A k c l)(O:k<=17592186044416)(P:s.size<=255) :
  Calls Tryz.prog 104 #[.slice A k c,.string s] w λe E=>∃y D B,e=.returned (.tuple #[.slice y D B,.int .i64 0])/\Own E w.1.size 5 y D B (l++(Zc s.size 1++s.data.toList))/\Below w.1.size w E:=by
 have G:=Lib.hid h.len;have u:=qvd s;go_enter Tryz.func104,Tryz.ntmps104
 go_wp2_with (go_at_call 178;refine (qc5 s.size 1 _ (by omega) (by omega)).mono ?_;rintro e F ⟨K,c1,rfl,f,d⟩)
 have hd:=q6o F 5 s;have H:=qbw F 5 s (by unfold maxLen;omega);have I:=d.size;have J:=hd.size;have m:=f.sl;rw[show Int.toNat 1=1 from rfl] at m;refine (q5h _ _ _ [l,Zc s.size 1,s.data.toList] _ (Qbx 48 ((h.below d).below hd) (m.below hd) H) (by rw[Qc4,Ya,G.out];simp;omega)).mono ?_;rintro e R ⟨M,Q,c2,rfl,b,p⟩;go_wp2;go_ret2;rw[Qcx] at b;exact⟨_,_,_,rfl,b.less (by simp;omega),d.trans ((hd.mono I).trans (((Below.refl _ _).alloc (by omega) _).trans (p.mono (by simp;omega))))⟩
theorem qs5 (A:Option Addr)(k c:Nat)(l:List UInt8)(n:Int)(w:World)(h:Sl w A k c l)(h1:1<=n)(f:n<=6)(d:¬Gs l n.toNat) :
  Calls Tryz.prog 223 #[.slice A k c,.int .i64 n] w λe m=>e=.returned (.tuple #[.slice none 0 0,.slice none 0 0,.bool false])/\w=m:=by
 have p:=h.len;rcases (by omega:(k:Int)<n\/n<=(k:Int)) with b|b
 ·exact qj9 A k c n w b
 ·refine qs3 A k c l n w h h1 f b ?_;unfold Gs at d;rcases Nat.lt_or_ge k (n.toNat+Za (l.take n.toNat)) with h2|h2
  ·exact h2
  ·exact absurd ⟨by omega,by omega⟩ d
theorem qh8 (A:Option Addr)(k c:Nat)(l:List UInt8)(w:World)(h:Sl w A k c l)(b:¬Gs l 1) :
  Calls Tryz.prog 156 #[.slice A k c] w λe f=>e=.returned (.tuple #[.string ⟨#[]⟩,.slice none 0 0,.int .i64 2])/\w=f:=by
 have d:=Lib.hid b;clear b;go_enter Tryz.func156,Tryz.ntmps156
 go_wp2_with (go_at_call 223;refine (qs5 _ _ _ l 1 _ h (by omega) (by omega) d.out).mono ?_;rintro e m ⟨rfl,rfl⟩)
 go_ret3;exact⟨rfl,rfl⟩
theorem qs6 (A:Option Addr)(k c:Nat)(l:List UInt8)(n:Int)(w:World)(h:Sl w A k c l)(h1:1<=n)(u:n<=6)(y:Gs l n.toNat) :
  Calls Tryz.prog 223 #[.slice A k c,.int .i64 n] w λe b=>∃d m c1 f p c2,e=.returned (.tuple #[.slice d m c1,.slice f p c2,.bool true])/\
   Sl b d m c1 (bodyT l n.toNat)/\Sl b f p c2 (Uy l n.toNat)/\Below w.1.size w b:=by
 have E:=h.len;obtain⟨B,D⟩:=y;exact qs4 A k c l n w h h1 u (by omega) (by omega)
theorem qew (A:Option Addr)(k c:Nat)(l:List UInt8)(w:World)(h:Sl w A k c l)(U:k<=17592186044416)(F:Gs l 1) :
  Calls Tryz.prog 156 #[.slice A k c] w λe G=>∃u y c2,e=.returned (.tuple #[.string ⟨(bodyT l 1).toArray⟩,.slice u y c2,.int .i64 0])/\
   Own G w.1.size 5 u y c2 (Uy l 1)/\Below w.1.size w G:=by
 have I:=Lib.hid h.len;have J:=Lib.hid F;clear F;have B:=qld l 1;have D:=qvc l 1;go_enter Tryz.func156,Tryz.ntmps156
 go_wp2_with (go_at_call 223;refine (qs6 _ _ _ l 1 _ h (by omega) (by omega) J.out).mono ?_;rintro e d ⟨H,Q,c1,u,y,c2,rfl,h1,h2,m⟩)
 rw[show Int.toNat 1=1 from rfl] at h1 h2;have P:=m.size;have K:=Oa (w:=d.drew) h1;have M:∀o,(convert 48 9 (.slice H Q c1)).run Tryz.prog (d.alloc o).drew=.ok (.string ⟨(bodyT l 1).toArray⟩) (d.alloc o).drew:=λo=>Oa (w:=(d.alloc o).drew) (h1.alloc o)
 have E:(Uy l 1).length<=17592186044416:=by have:=I.out;omega
 go_region_with (go_at_call 177;refine (q5h _ _ _ [Uy l 1] _ (by first|exact Bj (w:=d) 48 h2|exact Bj (w:=d.drew) 48 h2) (by rw[Qa2];omega)).mono ?_;rintro e R ⟨T,W,c3,rfl,b,p⟩;have f:Below d.1.size d R:=(by first|exact ((Below.refl _ d).alloc (Nat.le_refl _) _).drew.trans (p.mono (by simp))|exact ((Below.refl _ d).drew.alloc (Nat.le_refl _) _).trans (p.mono (by simp)));have O:=Oa (h1.below f))
 all_goals
  go_wp2;go_ret3;rw[Qar] at b;exact⟨_,_,_,rfl,b.less (by simp;omega),m.trans (f.mono P)⟩
def Ql (n:Nat):Nat:=(n+117) / 118
theorem qda (x:Int)(n:Nat)(d:x=(n:Int))(hn:n<=100000)(k:Nat)(b:Ql n=k)(w:World) :
  Calls Tryz.prog 152 #[.int .i64 x] w λe f=>e=.returned (.tuple #[.int .i64 (k:Int),.int .i64 (2+2*(k:Int))])/\w=f:=by
 subst d;unfold Ql at b;have h1:((n:Int)+118-1).tdiv 118=(k:Int):=by
  rw[Int.tdiv_eq_ediv_of_nonneg (by omega)];omega
 have h2:(k:Int)<=1000:=by omega
 clear b;go_enter Tryz.func152,Tryz.ntmps152
 go_wp2;go_ret2;exact⟨rfl,rfl⟩
