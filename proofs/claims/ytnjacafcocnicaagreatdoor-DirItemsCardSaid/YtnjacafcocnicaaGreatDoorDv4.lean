/- The reference's Take takes a number off any bytes, or refuses, as P1.1 says -/
import Derived.Test.YtnjacafcocnicaaGreatDoorDv2
import Derived.Test.YtnjacafcocnicaaGreatDoorDv3
namespace Go.Proofs.YtnjacafcocnicaaGreatDoor
open Go Go.RowKit Go.Proofs Tryz
set_option maxHeartbeats 1000000
theorem q7d (A:OA)(k c:Nat)(n:Int)(w:WD)(h1:1<=n)(m:n<=7)(hn:(k:Int)<n) :
  Calls prog 37 #[.slice A k c,.int .i64 n] w λe f=>e=.returned (.tuple #[.int .i64 0,.slice none 0 0,.int .i64 2])/\w=f:=by
 go_enter func37,ntmps37
 go_wp2;go_ret3;exact⟨rfl,rfl⟩
theorem q6k (A:OA)(k c:Nat)(l:LU)(n:Int)(w:WD)(h:Sl w A k c l)(V:k<=17592186044416)(h1:1<=n)(Q:n<=7)(hn:n<=(k:Int)) :
  Calls prog 37 #[.slice A k c,.int .i64 n] w λe E=>∃y D B,e=.returned (.tuple #[.int .i64 (Qq (l.take n.toNat)),.slice y D B,.int .i64 0])/\Own E w.1.size 5 y D B (l.drop n.toNat)/\Below w.1.size w E:=by
 obtain⟨m,rfl⟩:=Int.eq_ofNat_of_zero_le (show 0<=n by omega);rw[AJ];have T:=h.cap;have hm:=h.max;unfold maxLen at hm;have I:m<=c:=by omega
 go_enter func37,ntmps37
 go_wp2;go_loop [7,8] (λx i=>∃j:Nat,j<=m/\i=.int .i64 j/\x=.int .i64 (Qq (l.take j))) (λ_ i=>m-(intOf i).toNat)
 case atStart=>exact⟨0,AW _,rfl,rfl⟩
 case round=>
  obtain⟨j,U,rfl,rfl⟩:=hrel;by_cases K:j<m
  ·obtain⟨P,rfl,R,u⟩:=h.cell (k:=j) (by omega);have H:=q91 l j;have M:Qq (l.take j)<36028797018963968:=by
    have h1:=q3m (l.take j);have h2:(256:Nat) ^ (l.take j).length<=256 ^ 6:=Nat.pow_le_pow_right (by omega) (by rw[AR];omega);omega
   have J:=HI h.len;have hi:j<k:=by omega
   go_wp2;refine⟨⟨j+1,by omega,by go_num,?_⟩,by simp[intOf];omega⟩;rw[qg7 _ _ (by rw[J.out];omega)];go_num
  ·obtain rfl:j=m:=by omega
   obtain⟨p,G,F⟩:∃p,(if c=j then A else Option.map (λx=>x.add j) A)=p/\Sl w p (k-j) (c-j) (l.drop j):=⟨_,rfl,h.drop (by omega)⟩;go_wp2_with (at_builtin;refine q1r _ Cb rfl _ _ rfl w.1.size _ 0 0 [] rfl (q3s w 5) p (k-j) (c-j) _ rfl (F.alloc _) (by omega) (by simp) ?_)
   intro O c3 W f q;go_wp2;go_ret3;exact⟨_,_,_,rfl,by simpa using f,q72 _ q (AE _)⟩
theorem qt4 (A:OA)(k c:Nat)(l:LU)(n:Int)(w:WD)(h:Sl w A k c l)(B:k<=17592186044416)(h1:1<=n)(K:n<=6)(m:¬Yt l n.toNat) :
  Calls prog 62 #[.slice A k c,.int .i64 n] w λe H=>e=.returned (.tuple #[.slice none 0 0,.slice none 0 0,.int .i64 2])/\Below w.1.size w H:=by
 have f:=h.len;by_cases F:(k:Int)<n
 ·clear m;have q:=HI f;clear f;go_enter func62,ntmps62
  go_wp2_with (go_at_call 37;refine (q7d A k c n w (by omega) (by omega) F).mono ?_;rintro e I ⟨rfl,rfl⟩)
  go_ret3;exact⟨rfl,AI _ _⟩
 ·have G:k<n.toNat+Qq (l.take n.toNat):=by
   unfold Yt at m;rcases Nat.lt_or_ge k (n.toNat+Qq (l.take n.toNat)) with h2|h2
   ·exact h2
   ·exact absurd ⟨by omega,by omega⟩ m
  clear m;have q:=HI f;clear f;go_enter func62,ntmps62
  go_wp2_with fail
  refine (q6k A k c l n w h B (by omega) (by omega) (by omega)).mono ?_;rintro e I ⟨J,u,c1,rfl,E,y⟩;have p:u=k-n.toNat:=by have:=E.len;rw[AS,q.out] at this;omega
  generalize Qq (List.take n.toNat l)=v at G ⊢;have D:(u:Int)<(v:Int):=by omega
  clear p;go_wp2;go_ret3;exact⟨rfl,y⟩
theorem qp8 (A:OA)(k c:Nat)(l:LU)(n:Int)(w:WD)(h:Sl w A k c l)(hk:k<=17592186044416)(h1:1<=n)(h7:n<=6)(hw:Yt l n.toNat) :
  Calls prog 62 #[.slice A k c,.int .i64 n] w λe w'=>∃G E c1 F n2 c2,e=.returned (.tuple #[.slice G E c1,.slice F n2 c2,.int .i64 0])/\
   Sl w' G E c1 (bodyT l n.toNat)/\Sl w' F n2 c2 (Zu l n.toNat)/\(∀T,F=some T->w.1.size<=T.block)/\Below w.1.size w w':=by
 have hl:=h.len;obtain⟨ha,hv⟩:=hw;rw[hl] at ha hv;have Hl:=HI hl;clear hl;have e1:bodyT l n.toNat=(l.drop n.toNat).take (Qq (l.take n.toNat)):=rfl;have e2:Zu l n.toNat=(l.drop n.toNat).drop (Qq (l.take n.toNat)):=by unfold Zu;rw[List.drop_drop]
 rw[e1,e2];clear e1 e2;go_enter func62,ntmps62
 go_wp2_with fail
 refine (q6k A k c l n w h hk (by omega) (by omega) (by omega)).mono ?_;rintro e u ⟨G,E,c1,rfl,ho,hb⟩;have b3:E=k-n.toNat:=by have:=ho.len;rw[AS,Hl.out] at this;omega
 generalize R:Qq (List.take n.toNat l)=v at hv ⊢;generalize Q:l.drop n.toNat=r at ho ⊢;have a1:=HI R;have Z:=HI Q;clear R Q;have b0:v<=E:=by omega
 have b9:E<=17592186044416:=by omega
 clear b3;have hr:=ho.sl;have b5:=hr.cap;have b6:v<=c1:=by omega
 have V:=hb.size;have h2:=hr.take b0;obtain⟨F,b4,h3⟩:∃F,(if c1=v then G else Option.map (λx=>x.add v) G)=F/\Sl u F (E-v) (c1-v) (r.drop v):=⟨_,rfl,hr.drop (by omega)⟩;have b7:(v:Int)<=(c1:Int):=by omega
 have b8:(0:Int)<=(v:Int):=by omega
 have hd:decide ((E:Int)<(v:Int))=false:=by simp;omega
 go_wp2_with fail
 have o1:Own (u.alloc (.cells #[] 5)) w.1.size 5 (some ⟨u.1.size,0,none⟩) 0 0 []:=(q3s u 5).less V;have W:Own ((u.alloc (.cells #[] 5)).alloc (.cells #[] 5)) w.1.size 5 (some ⟨u.1.size,0,none⟩) 0 0 []:=o1.alloc _;have X:Own ((u.alloc (.cells #[] 5)).alloc (.cells #[] 5)) w.1.size 5 (some ⟨u.1.size+1,0,none⟩) 0 0 []:=by
  have:=(q3s (u.alloc (.cells #[] 5)) 5).less (b:=w.1.size) (by simp;omega);simpa using this
 have O:=h2.alloc (.cells #[] 5);have a7:=O.alloc (.cells #[] 5);have P:=h3.alloc (.cells #[] 5);have a8:=P.alloc (.cells #[] 5);have H:Below u.1.size u (u.alloc (.cells #[] 5)):=Qi;have U:Below u.1.size u ((u.alloc (.cells #[] 5)).alloc (.cells #[] 5)):=H.alloc H.size _;go_region_law (first
  |(rw[AA (by rfl)]
    refine q65 _ Cb (.tmp 25) (.tmp 28) (by rfl) w.1.size _ (by rfl) (by first|exact o1|exact W|exact X|exact a6|exact M|exact (q3s _ 5).less Y) G v c1 _ (by rfl) (by first|exact O|exact a7|exact I|exact I.alloc _) (by omega) (by first|(simp;omega)|omega) ?_;rintro A3 c3 w3 y f;have B:Below u.1.size u w3:=(by first|exact H.drew.trans (f.mono H.size)|exact U.drew.trans (f.mono U.size)|exact p.trans (f.mono p.size)|exact (p.alloc p.size _).trans (f.mono (by have:=p.size;simp;omega)));have Y:w.1.size<=w3.1.size:=AZ V B.size;have J:=h3.below B;have p:=B;try (have a2:=Own.below (by exact W) f)
    try (have K:=Own.below (by exact X) f)
    try (have q:=q.below f)
    try (have q:=(q.alloc _).below f))
  |(rw[AA (by rfl)]
    refine q65 _ Cb (.tmp 30) (.tmp 33) (by rfl) w.1.size _ (by rfl) (by first|exact o1|exact W|exact X|exact a2|exact K|exact (q3s _ 5).less Y) F (E-v) (c1-v) _ (by rfl) (by first|exact P|exact a8|exact J|exact J.alloc _) (by omega) (by first|(simp;omega)|omega) ?_;rintro A4 c4 w4 q m;have D:Below u.1.size u w4:=(by first|exact H.drew.trans (m.mono H.size)|exact U.drew.trans (m.mono U.size)|exact p.trans (m.mono p.size)|exact (p.alloc p.size _).trans (m.mono (by have:=p.size;simp;omega)));have Y:w.1.size<=w4.1.size:=AZ V D.size;have I:=h2.below D;have p:=D;try (have a6:=Own.below (by exact W) m)
    try (have M:=Own.below (by exact X) m)
    try (have y:=y.below m)
    try (have y:=(y.alloc _).below m)))
 all_goals
  go_wp2;go_ret3;rw[a1.out,Z.out];exact⟨_,_,_,_,_,_,rfl,y.sl,q.sl,λT h=>(q.block T h).1,hb.trans (p.mono V)⟩
theorem qbj (A:OA)(k c:Nat)(l:LU)(w:WD)(h:Sl w A k c l)(q:k<=17592186044416)(f:¬Yt l 1) :
  Calls prog 36 #[.slice A k c] w λe u=>e=.returned (.tuple #[.string ⟨#[]⟩,.slice none 0 0,.int .i64 2])/\Below w.1.size w u:=by
 have m:=HI f;clear f;have y:∀W:WD,(convert 48 9 (.slice none 0 0)).run prog W=.ok (.string ⟨#[]⟩) W:=λW=>Fb (Il W)
 go_enter func36,ntmps36
 go_wp2_with (go_at_call 62;refine (qt4 A k c l 1 w h q (by omega) (by omega) m.out).mono ?_;rintro e B ⟨rfl,p⟩)
 go_ret3;exact⟨rfl,p⟩
theorem q9o (A:OA)(k c:Nat)(l:LU)(w:WD)(h:Sl w A k c l)(E:k<=17592186044416)(u:Yt l 1) :
  Calls prog 36 #[.slice A k c] w λe y=>∃f p c2,e=.returned (.tuple #[.string ⟨(bodyT l 1).toArray⟩,.slice f p c2,.int .i64 0])/\
   Sl y f p c2 (Zu l 1)/\(∀q,f=some q->w.1.size<=q.block)/\Below w.1.size w y:=by
 have B:=HI u;clear u;go_enter func36,ntmps36
 go_wp2_with (go_at_call 62;refine (qp8 A k c l 1 w h E (by omega) (by omega) B.out).mono ?_;rintro e I ⟨F,H,c1,f,p,c2,rfl,h1,h2,m,D⟩;have G:=Fb h1)
 go_ret3;exact⟨_,_,_,rfl,h2,m,D⟩
