/- The program's Take takes a number off any bytes, or refuses, as P1.1 says, for at most 2 t -/
import Derived.Test.YtloolbmdiimanaaGreatDoorGv2
import Derived.Deep.RegionWith
import Derived.BigQuiet
import Derived.Deep.QuietTactic
import Derived.Deep.RegionLaw
namespace Go.Proofs.YtloolbmdiimanaaGreatDoor
open Go Go.RowKit Go.Proofs Tryz
set_option maxHeartbeats 1000000
theorem q4a (A:OA)(k c:Nat)(l:LU)(n:Int)(w:WD)(h:Sl w A k c l)(R:k<=17592186044416)(h1:1<=n)(O:n<=7)(hn:n<=(k:Int)) :
  Calls prog 54 #[.slice A k c,.int .i64 n] w λe E=>∃u D y,e=.returned (.tuple #[.int .i64 (Qq (l.take n.toNat)),.slice u D y,.int .i64 0])/\Own E w.1.size 5 u D y (l.drop n.toNat)/\Below w.1.size w E:=by
 obtain⟨m,rfl⟩:=Int.eq_ofNat_of_zero_le (show 0<=n by omega);rw[AJ];have Q:=h.cap;have hm:=h.max;unfold maxLen at hm;have G:(0:Int)<=(m:Int):=by omega
 have H:(m:Int)<=(c:Int):=by omega
 have I:m<=c:=by omega
 have J:m<=k:=by omega
 have P:decide ((k:Int)<(m:Int))=false:=by simp;omega
 go_enter func54,ntmps54
 go_wp2_with fail
 have h2:=h.take (k:=m) (by omega);obtain⟨g,F,B⟩:∃g,(if c=m then A else Option.map (λx=>x.add m) A)=g/\Sl w g (k-m) (c-m) (l.drop m):=⟨_,rfl,h.drop (by omega)⟩;have f:=HI B.len;go_region_with (first
  |(go_at_call 89;go_loud (refine (q7q _ _ _ (l.take m) _ (by first|exact h2|exact h2.alloc _) (by omega)).mono ?_;rintro e K ⟨rfl,rfl⟩))
  |(go_at_call 90;refine (q57 _ _ _ [l.drop m] _ (by exact Bl (w:=w.drew) 22 B) (by rw[Qat,f.out];omega)).mono ?_;rintro e K ⟨M,T,c1,rfl,d,p⟩))
 all_goals
  go_wp2;go_ret3;rw[Qaj] at d;refine⟨_,_,_,rfl,d.less (by simp),?_⟩;exact ((AI w.1.size w).drew.alloc (AE _) _).trans (p.mono (by simp))
theorem q82 (A:OA)(k c:Nat)(n:Int)(w:WD)(h1:1<=n)(f:n<=7)(hn:(k:Int)<n) :
  Calls prog 54 #[.slice A k c,.int .i64 n] w λe d=>e=.returned (.tuple #[.int .i64 0,.slice none 0 0,.int .i64 2])/\w=d:=by
 go_enter func54,ntmps54
 go_wp2;go_ret3;exact⟨rfl,rfl⟩
theorem Nu {w:WD}{A:OA}{n c:Nat}{l:LU}(h:Sl w A n c l):(convert 22 9 (.slice A n c)).run prog w=.ok (.string ⟨l.toArray⟩) w:=
 q61 22 9 5 Cb underlying5 underlying9 h
def Gt (l:LU)(m:Nat):Prop:=m<=l.length/\m+Qq (l.take m)<=l.length
def bodyT (l:LU)(m:Nat):LU:=(l.drop m).take (Qq (l.take m))
def Uz (l:LU)(m:Nat):LU:=l.drop (m+Qq (l.take m))
theorem ql1 (l:LU)(m:Nat):(bodyT l m).length<=l.length:=by unfold bodyT;simp;omega
theorem qup (l:LU)(m:Nat):(Uz l m).length<=l.length:=by unfold Uz;simp
theorem qis (A:OA)(k c:Nat)(n:Int)(w:WD)(hn:(k:Int)<n) :
  Calls prog 173 #[.slice A k c,.int .i64 n] w λe d=>e=.returned (.tuple #[.slice none 0 0,.slice none 0 0,.bool false])/\w=d:=by
 go_enter func173,ntmps173
 go_wp2;go_ret3;exact⟨rfl,rfl⟩
theorem qqx (A:OA)(k c:Nat)(l:LU)(n:Int)(w:WD)(h:Sl w A k c l)(h1:1<=n)(p:n<=6)(hn:n<=(k:Int))(f:k<n.toNat+Qq (l.take n.toNat)) :
  Calls prog 173 #[.slice A k c,.int .i64 n] w λe g=>e=.returned (.tuple #[.slice none 0 0,.slice none 0 0,.bool false])/\w=g:=by
 obtain⟨m,rfl⟩:=Int.eq_ofNat_of_zero_le (show 0<=n by omega);rw[AJ] at f;have u:=h.cap;have hm:=h.max;unfold maxLen at hm;have d:m<=c:=by omega
 have h2:=h.take (k:=m) (by omega);have y:Qq (l.take m)<281474976710656:=by
  have h1:=q7p (l.take m);have h2:(256:Nat) ^ (l.take m).length<=256 ^ 6:=Nat.pow_le_pow_right (by omega) (by rw[AR];omega);omega
 go_enter func173,ntmps173
 go_wp2_with (go_at_call 89;refine (q7q _ _ _ (l.take m) _ h2 (by omega)).mono ?_;rintro e B ⟨rfl,rfl⟩)
 go_ret3;exact⟨rfl,rfl⟩
theorem qqy (A:OA)(k c:Nat)(l:LU)(n:Int)(w:WD)(h:Sl w A k c l)(h1:1<=n)(O:n<=6)(hn:n<=(k:Int))(D:n.toNat+Qq (l.take n.toNat)<=k) :
  Calls prog 173 #[.slice A k c,.int .i64 n] w λe B=>∃g F c1 p G c2,e=.returned (.tuple #[.slice g F c1,.slice p G c2,.bool true])/\
   Sl B g F c1 ((l.drop n.toNat).take (Qq (l.take n.toNat)))/\Sl B p G c2 (l.drop (n.toNat+Qq (l.take n.toNat)))/\Below w.1.size w B:=by
 obtain⟨m,rfl⟩:=Int.eq_ofNat_of_zero_le (show 0<=n by omega);rw[AJ] at D ⊢;have P:=h.cap;have hm:=h.max;unfold maxLen at hm;have K:m<=c:=by omega
 have h2:=h.take (k:=m) (by omega);generalize E:Qq (l.take m)=v at D ⊢;have H:=HI E;clear E;have M:m+v<=c:=by omega
 obtain⟨g,J,I⟩:∃g,(if c=m then A else Option.map (λx=>x.add m) A)=g/\Sl w g (k-m) (c-m) (l.drop m):=⟨_,rfl,h.drop (by omega)⟩;obtain⟨p,d,u⟩:∃p,(if c=m+v then A else Option.map (λx=>x.add (m+v)) A)=p/\Sl w p (k-(m+v)) (c-(m+v)) (l.drop (m+v)):=⟨_,rfl,h.drop (by omega)⟩;have y:=I.take (k:=v) (by omega);go_enter func173,ntmps173
 go_wp2_with (go_at_call 89;refine (q7q _ _ _ (l.take m) _ h2 (by omega)).mono ?_;rw[H.out];rintro e Q ⟨rfl,rfl⟩)
 go_quiet (fail)
 go_wp2
 ·have f:c=m+v:=by assumption
  subst f;go_ret3;rw[AA rfl] at d;subst d;rw[show m+v-m=v by omega] at y;rw[Nat.sub_self] at u;exact⟨_,_,_,_,_,_,rfl,y,u,q1r (AI _ _) _⟩
 ·have f:¬c=m+v:=by assumption
  go_ret3;rw[AB f] at d;subst d;exact⟨_,_,_,_,_,_,rfl,y,u,q1r (AI _ _) _⟩
theorem quq (s:ByteArray)(w:WD):(convert 9 22 (.string s)).run prog w=.ok (.slice (some ⟨w.1.size,0,none⟩) s.size (grownCap w s.size 0 5)) (Lib.bytesWorld w 5 s):=
 Lib.run_convert_string_bytes w 9 22 5 s underlying9 underlying22 underlying5
theorem qgv (A:OA)(k c:Nat)(l:LU)(s:ByteArray)(w:WD)(h:Sl w A k c l)(O:k<=17592186044416)(P:s.size<=255) :
  Calls prog 191 #[.slice A k c,.string s] w λe E=>∃y D B,e=.returned (.tuple #[.slice y D B,.int .i64 0])/\Own E w.1.size 5 y D B (l++(Q8 s.size 1++s.data.toList))/\Below w.1.size w E:=by
 have G:=HI h.len;have u:=quq s;go_enter func191,ntmps191
 go_wp2_with (go_at_call 95;refine (qcd s.size 1 _ (by omega) (by omega)).mono ?_;rintro e F ⟨K,c1,rfl,g,f⟩)
 have hd:=q6j F 5 s;have H:=qbz F 5 s (by unfold maxLen;omega);have I:=f.size;have J:=hd.size;have m:=g.sl;rw[show Int.toNat 1=1 from rfl] at m;refine (q57 _ _ _ [l,Q8 s.size 1,s.data.toList] _ (Qbi 22 ((h.below f).below hd) (m.below hd) H) (by rw[Qc5,Xz,G.out];simp;omega)).mono ?_;rintro e R ⟨M,Q,c2,rfl,d,p⟩;go_wp2;go_ret2;rw[Qcs] at d;exact⟨_,_,_,rfl,d.less (by simp;omega),f.trans ((hd.mono I).trans (((AI _ _).alloc (by omega) _).trans (p.mono (by simp;omega))))⟩
theorem qqz (A:OA)(k c:Nat)(l:LU)(n:Int)(w:WD)(h:Sl w A k c l)(h1:1<=n)(g:n<=6)(f:¬Gt l n.toNat) :
  Calls prog 173 #[.slice A k c,.int .i64 n] w λe m=>e=.returned (.tuple #[.slice none 0 0,.slice none 0 0,.bool false])/\w=m:=by
 have p:=h.len;rcases (by omega:(k:Int)<n\/n<=(k:Int)) with d|d
 ·exact qis A k c n w d
 ·refine qqx A k c l n w h h1 g d ?_;unfold Gt at f;rcases Nat.lt_or_ge k (n.toNat+Qq (l.take n.toNat)) with h2|h2
  ·exact h2
  ·exact absurd ⟨by omega,by omega⟩ f
theorem qgw (A:OA)(k c:Nat)(l:LU)(w:WD)(h:Sl w A k c l)(d:¬Gt l 1) :
  Calls prog 149 #[.slice A k c] w λe g=>e=.returned (.tuple #[.string ⟨#[]⟩,.slice none 0 0,.int .i64 2])/\w=g:=by
 have f:=HI d;clear d;go_enter func149,ntmps149
 go_wp2_with (go_at_call 173;refine (qqz _ _ _ l 1 _ h (by omega) (by omega) f.out).mono ?_;rintro e m ⟨rfl,rfl⟩)
 go_ret3;exact⟨rfl,rfl⟩
theorem qr0 (A:OA)(k c:Nat)(l:LU)(n:Int)(w:WD)(h:Sl w A k c l)(h1:1<=n)(u:n<=6)(y:Gt l n.toNat) :
  Calls prog 173 #[.slice A k c,.int .i64 n] w λe d=>∃f m c1 g p c2,e=.returned (.tuple #[.slice f m c1,.slice g p c2,.bool true])/\
   Sl d f m c1 (bodyT l n.toNat)/\Sl d g p c2 (Uz l n.toNat)/\Below w.1.size w d:=by
 have E:=h.len;obtain⟨B,D⟩:=y;exact qqy A k c l n w h h1 u (by omega) (by omega)
theorem qer (A:OA)(k c:Nat)(l:LU)(w:WD)(h:Sl w A k c l)(U:k<=17592186044416)(F:Gt l 1) :
  Calls prog 149 #[.slice A k c] w λe G=>∃u y c2,e=.returned (.tuple #[.string ⟨(bodyT l 1).toArray⟩,.slice u y c2,.int .i64 0])/\
   Own G w.1.size 5 u y c2 (Uz l 1)/\Below w.1.size w G:=by
 have I:=HI h.len;have J:=HI F;clear F;have B:=ql1 l 1;have D:=qup l 1;go_enter func149,ntmps149
 go_wp2_with (go_at_call 173;refine (qr0 _ _ _ l 1 _ h (by omega) (by omega) J.out).mono ?_;rintro e f ⟨H,Q,c1,u,y,c2,rfl,h1,h2,m⟩)
 rw[show Int.toNat 1=1 from rfl] at h1 h2;have P:=m.size;have K:=Nu (w:=f.drew) h1;have M:∀o,(convert 22 9 (.slice H Q c1)).run prog (f.alloc o).drew=.ok (.string ⟨(bodyT l 1).toArray⟩) (f.alloc o).drew:=λo=>Nu (w:=(f.alloc o).drew) (h1.alloc o)
 have E:(Uz l 1).length<=17592186044416:=by have:=I.out;omega
 go_region_with (go_at_call 90;refine (q57 _ _ _ [Uz l 1] _ (by first|exact Bl (w:=f) 22 h2|exact Bl (w:=f.drew) 22 h2) (by rw[Qat];omega)).mono ?_;rintro e R ⟨T,W,c3,rfl,d,p⟩;have g:Below f.1.size f R:=(by first|exact ((AI _ f).alloc (AE _) _).drew.trans (p.mono (by simp))|exact ((AI _ f).drew.alloc (AE _) _).trans (p.mono (by simp)));have O:=Nu (h1.below g))
 all_goals
  go_wp2;go_ret3;rw[Qaj] at d;exact⟨_,_,_,rfl,d.less (by simp;omega),m.trans (g.mono P)⟩
def Qj (n:Nat):Nat:=(n+117) / 118
theorem qd4 (x:Int)(n:Nat)(f:x=(n:Int))(hn:n<=100000)(k:Nat)(d:Qj n=k)(w:WD) :
  Calls prog 35 #[.int .i64 x] w λe g=>e=.returned (.tuple #[.int .i64 (k:Int),.int .i64 (2+2*(k:Int))])/\w=g:=by
 subst f;unfold Qj at d;have h1:((n:Int)+118-1).tdiv 118=(k:Int):=by
  rw[Int.tdiv_eq_ediv_of_nonneg (by omega)];omega
 have h2:(k:Int)<=1000:=by omega
 clear d;go_enter func35,ntmps35
 go_wp2;go_ret2;exact⟨rfl,rfl⟩
