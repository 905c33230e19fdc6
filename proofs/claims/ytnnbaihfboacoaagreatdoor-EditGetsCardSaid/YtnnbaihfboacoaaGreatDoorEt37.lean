/- Laws of the pool: a pool, its drive, and blocks of the law's own; rows of numbers -/
import Derived.Test.YtnnbaihfboacoaaGreatDoorEt36
import Derived.Test.YtnnbaihfboacoaaGreatDoorEt40
namespace Go.Proofs.YtnnbaihfboacoaaGreatDoor
open Go Go.RowKit Go.Proofs
set_option maxHeartbeats 8000000
set_option maxRecDepth 100000
section
variable {b:Nat}{w w':World}{d p:Nat}{S0 S T S':Nat->Prop}{D:DM}{P:Pl}
theorem qqn (H:Qi b w d p S0 S T D P)(K:1<b)(F:Tab w){G:Nat}(E:D.Ya G)(B:G<=500000)(y:P.g<1099511627775) :
  Calls Tryz.prog 23 #[.pointer (some ⟨p,0,none⟩)] w λe w'=>e=.returned (.int .i64 (D.Lu P))/\Qi b w' d p (grow S0 w w') S (grow T w w') (D.Qk P.steps) (D.Md P)/\Turn (λk=>S0 k\/S k) w w'/\Tab w':=by
 have u:=H.Cj;have J:=H.base;refine (qhx H.U8 H.pool H.sub H.apart (λk f=>(H.tight k f).2) (λh=>by have:=(H.tight _ h).1;omega) F E B y).mono ?_;rintro e w' ⟨rfl,R,Q,X⟩;have M:=X.size;have I:∀k,S0 k\/S k->T k:=λk f=>f.elim (H.sub k) (u k)
 refine⟨rfl,⟨R.tight,?_,λk f=>⟨f.1.imp (H.sub k) id,f.2⟩,λk f h=>?_,λk f=>⟨f.1.elim (λh=>(H.tight k h).1) λh=>by omega,f.2⟩⟩,X,F.turned X λh=>by have:=(H.tight _ (I _ h)).1;omega⟩
 ·exact Q.mono (λk _ h=>h) (λk f h=>h.1) λk f=>⟨.inl (u k f),by have:=(H.tight k (u k f)).2;omega⟩
 ·exact f.1.elim (λh2=>H.apart k h2 h) λh2=>by have:=(H.tight k (u k h)).2;omega
end
section
variable {w w':World}{base:Nat}{A:Option Addr}{n c:Nat}{an:List Nat}
end
section
attribute [local go_sem ↓] qgm
attribute [local go_sem ↓] qgn
section
variable {b:Nat}{w:World}{d p:Nat}{S0 S T:Nat->Prop}{D:DM}{P P':Pl}
theorem qkq (root:Int)(k:Kd)(V:Option Addr)(q c:Nat)(J:q<=140737488355328)(f:k.may=false\/28<q)(w:World) :
  Calls Tryz.prog 30 #[.pointer (some ⟨p,0,none⟩),.int .i64 root,.agg #[.int .i64 k.obj,.int .i64 k.kind,.int .i64 k.off],.slice V q c] w λe w'=>e=.returned (.tuple #[.int .i64 0,.int .i64 1])/\Below w.1.size w w':=by
 obtain⟨u,y⟩:=Xb w k
 cases hm:k.may with
 |false=>
  have B:=Lib.hid (λw=>q20 k false hm w);clear hm f;go_enter Tryz.func30,Tryz.ntmps30
  go_wp2_with fail
  generalize w.alloc (.cells #[.int .i64 k.obj,.int .i64 k.kind,.int .i64 k.off] 30)=G at u y ⊢;have c0:=u.c0;have c1:=u.c1;have c2:=u.c2;go_wp2_with fail
  refine (B.out _).mono ?_;rintro e I ⟨rfl,E⟩;go_wp2_with fail
  go_ret2;exact⟨rfl,y.trans (E.mono y.size)⟩
 |true=>
  have B:=Lib.hid (λw=>q20 k true hm w);have F:((28:Int)<(q:Int)):=by
   rcases f with h|h
   ·rw[hm] at h;cases h
   ·omega
  clear hm f;go_enter Tryz.func30,Tryz.ntmps30
  go_wp2_with fail
  generalize w.alloc (.cells #[.int .i64 k.obj,.int .i64 k.kind,.int .i64 k.off] 30)=G at u y ⊢;have c0:=u.c0;have c1:=u.c1;have c2:=u.c2;go_wp2_with fail
  refine (B.out _).mono ?_;rintro e I ⟨rfl,E⟩;go_wp2_with fail
  go_ret2;exact⟨rfl,y.trans (E.mono y.size)⟩
end
end
theorem qu8 {w:World}{p:Nat}{R:Int->Nd × Int}(H:Src w p R)(ht:Tab w)(root:Int)(k:Kd) :
  Calls Tryz.prog 17 #[.pointer (some ⟨p,0,none⟩),.int .i64 root,.agg #[.int .i64 k.obj,.int .i64 k.kind,.int .i64 k.off]] w λe w'=>∃A n c,e=.returned (.tuple #[.slice A n c,.int .i64 (Bl R k root).2])/\Sl w' A n c (Bl R k root).1/\Below w.1.size w w':=by
 have O:KB ((w.alloc (.cells #[.int .i64 k.obj,.int .i64 k.kind,.int .i64 k.off] 30)).alloc (.cells #[.int .i64 0,.slice none 0 0,.slice none 0 0] 75)) w.1.size k:=(KB.new w k.obj k.kind k.off _).below (Qm) (by simp);have N1:NB ((w.alloc (.cells #[.int .i64 k.obj,.int .i64 k.kind,.int .i64 k.off] 30)).alloc (.cells #[.int .i64 0,.slice none 0 0,.slice none 0 0] 75)) (w.1.size+1) 0 none 0 0 none 0 0:=NB.new2 w _ _ _ _ _ _ _ _ _;have b1:Below w.1.size w ((w.alloc (.cells #[.int .i64 k.obj,.int .i64 k.kind,.int .i64 k.off] 30)).alloc (.cells #[.int .i64 0,.slice none 0 0,.slice none 0 0] 75)):=(Qm).alloc (by simp) _;have z1:((w.alloc (.cells #[.int .i64 k.obj,.int .i64 k.kind,.int .i64 k.off] 30)).alloc (.cells #[.int .i64 0,.slice none 0 0,.slice none 0 0] 75)).1.size=w.1.size+2:=by simp
 have J:=Lib.hid (qgi R k root);have hL:=Lib.hid (λh=>qcv (k:=k) (root:=root) H.may h);obtain⟨F,hF⟩:∃F,Yh R k root=F:=⟨_,rfl⟩;obtain⟨G,Z⟩:∃G,Bl R k root=G:=⟨_,rfl⟩;rw[hF] at J hL;rw[Z] at J ⊢;have HF:=Lib.hid hF;clear hF Z;have k0:=O.c0;have k1:=O.c1;have k2:=O.c2;go_enter Tryz.func17,Tryz.ntmps17
 go_wp2_with fail
 generalize (w.alloc (.cells #[.int .i64 k.obj,.int .i64 k.kind,.int .i64 k.off] 30)).alloc (.cells #[.int .i64 0,.slice none 0 0,.slice none 0 0] 75)=w1 at O N1 b1 z1 k0 k1 k2 ⊢;have I1:GInv w (w.1.size+1) [] (λk=>k=w.1.size+1) w1:=⟨w1.1.size,w1.1.size,none,0,0,none,0,0,N1,qgk w1,.inl (by omega),by omega,by omega,λk=>⟨.inl,λh=>h.elim id λh=>by omega⟩⟩;refine (qgh H qgj b1 ht root k _ I1).mono ?_;rw[HF.out];rintro e w2 ⟨rfl,T,⟨lo,hi,A,n,c,B,m,d,Q,Hd,-,-,-,-⟩,X,X2⟩;have K2:=O.keep (X2.block _ O.lt (by show ¬w.1.size=w.1.size+1;omega));clear k0 k1 k2 I1;obtain⟨M,hM⟩:∃M,Yj F.1=M:=⟨_,rfl⟩;obtain⟨E,hE⟩:∃E,F.2=E:=⟨_,rfl⟩;rw[hM] at Q Hd;rw[hM,hE] at J hL;rw[hE];clear hM hE HF;by_cases h0:E=0
 ·subst h0;obtain⟨-,I,u⟩:=hL.out rfl;have f:=J.out;rw[if_neg (by simp)] at f;obtain⟨t,y⟩:∃t,M.Za k=t:=⟨_,rfl⟩;obtain⟨r,hr⟩:∃r,Vb M.keys k t=r:=⟨_,rfl⟩;obtain⟨r2,s2⟩:=Hd.rows;have K:M.items.length=n:=r2.Zq.len;have W:=Lib.hid (q22 M I k t y r hr A n c B m d w2 r2.Zq s2 (by have:=Hd.2.1;omega) (by have:=Hd.2.2.1;omega));have p0:=Q.c0;have p1:=Q.c1;have p2:=Q.c2;have k0:=K2.c0;have k1:=K2.c1;have k2:=K2.c2;unfold qel at f;rw[y,hr] at f;rw[y,hr,K] at u;have u:=Lib.hid u;have K:=Lib.hid K;clear I J hL y hr r2 s2
  cases r with
  |false=>
   rw[if_neg (by simp)] at f;subst f;go_wp2_with fail
   refine W.out.mono ?_;rintro e w3 ⟨rfl,Y⟩;clear p0 p1 p2 k0 k1 k2;go_wp2_with fail
   go_ret2;exact⟨none,0,0,rfl,q24 _,X.trans (Y.mono X.size)⟩
  |true=>
   rw[if_pos rfl] at f;have a1:=u.out rfl;have Hg:=Lib.hid f;clear f;go_wp2_with fail
   refine W.out.mono ?_;rintro e w3 ⟨rfl,Y⟩;have q1:=(Q.below Y Q.lt).c1;clear p0 p1 p2 k0 k1 k2;obtain⟨r3,-⟩:=(Hd.below Y).rows;obtain⟨g,o,V,a,b,rfl,hg,-,-,-,y3,hs⟩:=r3.Zq.cell a1;have e0:(0:Int)<=(t:Int):=by omega
   have e1:(t:Int)<(n:Int):=by omega
   obtain⟨_,a2⟩:=r3.Zq.bounds;clear r3;go_wp2_with fail
   go_ret2;refine⟨V,a,b,by rw[Hg.out];rfl,by rw[Hg.out];exact hs,X.trans (Y.mono X.size)⟩
 ·have f:=J.out;rw[if_pos h0] at f;have g1:(E==0)=false:=by simp[h0]
  have g2:(E != 0)=true:=by simp[h0]
  subst f;clear h0 J hL;go_wp2_with fail
  go_ret2;exact⟨none,0,0,rfl,q24 _,X⟩
section
variable {w:World}{p:Nat}{R:Int->Nd × Int}{root:Int}{its:List Qc}
theorem Told.get (h:Told w p R root its)(ht:Tab w)(k:Kd)(G:List UInt8 × Int)(hG:Gl (valOf its k)=G) :
  Calls Tryz.prog 17 #[.pointer (some ⟨p,0,none⟩),.int .i64 root,.agg #[.int .i64 k.obj,.int .i64 k.kind,.int .i64 k.off]] w λe w'=>∃A n c,e=.returned (.tuple #[.slice A n c,.int .i64 G.2])/\Sl w' A n c G.1/\Below w.1.size w w':=by
 have:=qu8 h.src ht root k;rw[qjx h.tree h.Qd,hG] at this;exact this
end
section
variable {b:Nat}{w w':World}{d p:Nat}{U:Nat->Prop}{D:DM}{P:Pl}{H H0:List Int}{m:Nat}{g:Int}{root:Int}{its:List Qc}
theorem Ed.commit (E:Ed b w d p U D P H m g)(hb:1<b)(hm:m<=500000)(hg:g<=1000000) :
  Calls Tryz.prog 23 #[.pointer (some ⟨p,0,none⟩)] w λe w'=>e=.returned (.int .i64 0)/\Ed b w' d p (grow U w w') (D.Qk P.steps) P.done H (m+2100) (g+1)/\Turn U w w'/\∀l a t,Qp (P.store D) l a t->Qp (P.done.store (D.Qk P.steps)) l a t:=by
 obtain⟨G,I,J,B,h0,h1⟩:=E.sys;obtain⟨S0,O,K⟩:=E.keep;have u:P.g<1099511627775:=by have:=E.gen;unfold Pl.g;omega
 refine (qqn B hb E.tab E.Ya hm u).mono ?_;rintro e w' ⟨rfl,y,X,M⟩;obtain⟨c1,c2,_⟩:=qrw K.Zt.ok K.Zt.sound;rw[c1];rw[c2] at y;obtain⟨F,ext⟩:=qii K u;have Q:=X.size;refine⟨rfl,⟨⟨grow G w w',I,grow J w w',y,λk f=>⟨f.1.imp (h0 k) id,f.2⟩,λk f=>⟨.inl (h1 k f),by have:=(E.low k (h1 k f)).2;omega⟩⟩,λk f=>⟨f.1.elim (λh=>(E.low k h).1) λh=>by have:=B.base;omega,f.2⟩,M,⟨_,_,F⟩,(q3c _ E.Ya).mono (by have:=qux K.Zt.ok;omega),by show P.S.gen+1<=g+1;have:=E.gen;omega⟩,X.mono λk f=>f.elim (h0 k) (h1 k),λl a t h=>P9 ext h⟩
end
