/- The code's pool, plain facts: new blocks as they are kept (of generation 0), and dated -/
import Derived.Test.YtnnbaihfboacoaaGreatDoorEt12
import Derived.Test.YtnnbaihfboacoaaGreatDoorEt17
namespace Go.Proofs.YtnnbaihfboacoaaGreatDoor
open Go Go.RowKit Go.Proofs
set_option maxHeartbeats 2000000
set_option maxRecDepth 100000
theorem qjn (b:Bk)(a:Nat)(g g':Int):b.hd a g'=⟨(b.hd a g).kind,(b.hd a g).addr,(b.hd a g).count,(b.hd a g).level,g'⟩:=by
 cases b<;>rfl
theorem Bk.good.dates {b:Bk}(h:b.good){a:Nat}{g:Int}(ha:a<=2047)(hg:Es g):Xi (b.hd a g) (b.body++List.replicate (236-b.body.length) 0)=0/\Xo (b.hd a g) (b.body++List.replicate (236-b.body.length) 0)=b.out a g:=by
 have d:(b.body++List.replicate (236-b.body.length) (0:UInt8)).length<=236:=by
  have:=h.body;rw[List.length_append,List.length_replicate];omega
 unfold Xi Xo;rw[if_pos (h.hd a g ha hg),if_pos (h.hd a g ha hg),if_pos d,if_pos d,h.out a g ha hg];refine⟨rfl,(qoe _ _ _ (qo3 _) ?_).symm⟩;have:=h.body;rw[List.length_replicate];omega
theorem qom (P:Pl)(a:Nat):P.Ib a=(P.live a).map λb=>(a,b.out a P.g):=by
 unfold Pl.Ib Pl.live;split
 ·rename_i b d;rw[d];split<;>rfl
 ·rename_i d;rw[d];split<;>rfl
theorem qm1 (b:Bk)(hb:b.good)(a:Nat)(ha:a<=2047)(g:Int)(hg:Es g)(A:Option Addr)(n c:Nat)(w:World)(hs:Sl w A n c (b.out a 0))(ht:Tab w) :
  Calls Tryz.prog 93 #[.slice A n c,.int .i64 g] w λe w'=>∃q,e=.returned (.slice (some ⟨q,0,none⟩) 256 256)/\Own w' w.1.size 5 (some ⟨q,0,none⟩) 256 256 (b.out a g)/\Below w.1.size w w':=by
 obtain⟨o1,o2,o3⟩:=hb.opens (a:=a) (g:=0) ha q2f;obtain⟨K,M⟩:=hb.dates (a:=a) (g:=g) ha hg;have B:=q5v A n c _ w hs ht;unfold q21 at B;rw[o1,o2,o3] at B;obtain⟨H1,u⟩:∃H,b.hd a g=H:=⟨_,rfl⟩;obtain⟨O,d⟩:∃H,b.hd a 0=H:=⟨_,rfl⟩;have W:O.set 4 g=H1:=by rw[<-d,<-u];exact (qjn b a 0 g).symm
 have a2:O.gen=0:=by rw[<-d,qjn b a 1 0]
 rw[u] at K M;rw[d] at B;obtain⟨U,E⟩:∃U,b.body++List.replicate (236-b.body.length) 0=U:=⟨_,rfl⟩;rw[E] at K M B;have R:=Lib.hid K;have T:=Lib.hid M;clear K M o1 o2 o3 E d u;go_enter Tryz.func93,Tryz.ntmps93
 go_wp2_with fail
 refine B.mono ?_;rintro e D ⟨A3,n3,c3,rfl,G,y⟩;have F:=ht.below y ht.1;clear B;go_wp2_with (first
  |(refine q43 rfl (.tmp 5) (.tmp 11) rfl D.1.size rfl O _ rfl (HB.zero D _) (by simp) ?_;intro w6 P X T6;have q4:=P.at_ 4;have f4:=P.fz 4;have Q:=P.Vr 4 g;rw[W] at Q;simp only[Yp,Hd.Ea] at q4 f4 Q;have f:Below D.1.size D (w6.setCell ⟨D.1.size,4,none⟩ (.int .i64 g)):=((Qm).trans (X _ (Nat.le_refl _))).trans ((Below.refl _ w6).setCell (p:=⟨D.1.size,4,none⟩) (Nat.le_refl _) _);have I:=G.sl.below f;have a1:=F.below f F.1)
  |(refine q5t rfl _ rfl _ rfl _ Q ?_)
  |(go_at_call 84;refine (q5u H1 A3 n3 c3 U _ I a1).mono ?_;rw[R.out,T.out];rintro e w8 ⟨A8,n8,c8,rfl,J,Z,Y⟩)
  |fail)
 obtain⟨q,rfl,rfl,rfl⟩:=Z (by first|trivial|rfl);have m:=y.trans (f.mono y.size);go_ret;exact⟨q,rfl,J.less m.size,m.trans (Y.mono m.size)⟩
