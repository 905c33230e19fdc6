/- The statement DirBad: the walk. -/
import Derived.Test.YthkfkhejjmhomaaGreatDoorDb44
namespace Go.Proofs.YthkfkhejjmhomaaGreatDoor
open Go Go.RowKit Go.Proofs
set_option maxHeartbeats 16000000
set_option maxRecDepth 100000
section
variable {b:Nat}{w w':World}{d p:Nat}{U Q V:Nat->Prop}{D:DM}{P:Pl}{m:Nat}{g:Int}{root:Int}{L:List De}{lim:Nat}
theorem Solo.clone (h:Solo b w d p U Q V D P root L lim m g) :
  Calls Tryz.prog 24 #[.pointer (some ⟨p,0,none⟩)] w λe w'=>∃q F A,e=.returned (.pointer (some ⟨q,0,none⟩))/\Below w.1.size w w'/\Solo b w' d q F (λ_=>False) A D P root L lim m g/\∀k,A k->w.1.size<=k:=by
 have E:=h.ed;obtain⟨y,S,T,G,h0,h1⟩:=E.sys;refine (qm4 G).mono ?_;rintro e w' ⟨q,rfl,B,H,u⟩;refine⟨q,λk=>y k\/(w.1.size<=k/\k<w'.1.size),λk=>w.1.size<=k/\k<w'.1.size,rfl,B,⟨⟨⟨y,_,_,u,λk f=>.inl f,λk f=>.inr f⟩,λk f=>u.tight k (f.elim (u.sub k) (u.Aw k)),E.tab.below B E.tab.1,E.keep,E.Y0,E.gen⟩,⟨y,_,_,u,λk f=>.inl f,λk f=>.inr f,λ_ h=>h.elim,λk f=>f⟩,h.tree,h.row,h.few,h.kept⟩,λk f=>f.1⟩
end
theorem q84 {L:List De}{n:ByteArray}(h:Zo n L=false):Jy n L=none:=by
 rcases q3h n L with⟨h1,_,_⟩|⟨x,_,_,e,_⟩
 ·exact h1
 ·rw[h] at e;cases e
theorem q85 {L:List De}{n:ByteArray}(h:Zo n L=true):∃x∈L,Jy n L=some x/\x.2.name=n:=by
 rcases q3h n L with⟨_,h2,_⟩|⟨x,f,h1,_,e⟩
 ·rw[h] at h2;cases h2
 ·exact⟨x,f,h1,e⟩
section
variable {b:Nat}{w w':World}{d p:Nat}{U Q V:Nat->Prop}{D:DM}{P:Pl}{m:Nat}{g:Int}{root:Int}{L:List De}{lim:Nat}
def Qa3 (m t:Bool):Int:=if m=true then (if t=true then 11 else 0) else 1
def Qab (m t:Bool):Int:=if m=true then (if t=true then 0 else 10) else 1
def Qal (t:Bool):Int:=if t=true then 0 else 10
def qih (z:Nat)(w:World)(c:Int)(e:Ending)(w':World):Prop:=∃a:Int,e=.returned (.tuple #[.int .i64 a,.int .i64 c])/\(c≠0->a=0)/\Below z w w'
theorem Solo.Qcp (h:Solo b w d p U Q V D P root L lim m g)(hb:1<b)(hl:lim<=100)(hn:2*lim+17+P.C.first<=P.C.n){z:Nat}(hV:∀k,V k->z<=k)(hz:z<=w.1.size)(x:Za)(mm t:Bool)(hx:x.may=mm)(ht:Zo x.name L=t)(c:Int)(hc:Qa3 mm t=c) :
  Calls Tryz.prog 21 #[.pointer (some ⟨p,0,none⟩),.int .i64 root,.int .i64 1,.agg #[.string x.name,.int .i64 x.ino,.int .i64 x.kind]] w (qih z w c):=by
 subst hc
 cases mm with
 |false=>
  refine (qkp x hx w).mono ?_;rintro e w' ⟨rfl,f⟩;exact⟨0,rfl,λ_=>rfl,f.mono hz⟩
 |true=>
  refine (h.add hb hl hn x hx t ht).mono ?_;rintro e w' ⟨h1,h2⟩
  cases t with
  |true=>
   obtain⟨rfl,f⟩:=h1 rfl;exact⟨0,rfl,λ_=>rfl,f.mono hz⟩
  |false=>
   obtain⟨r,u,rfl,_,_,_,T⟩:=h2 rfl;exact⟨r,rfl,λh=>absurd rfl h,T.below hV hz⟩
theorem Solo.Qch (h:Solo b w d p U Q V D P root L lim m g)(hb:1<b)(hl:lim<=100)(hn:2*lim+17+P.C.first<=P.C.n){z:Nat}(hV:∀k,V k->z<=k)(hz:z<=w.1.size)(x:Za)(mm t:Bool)(hx:x.may=mm)(ht:Zo x.name L=t)(c:Int)(hc:Qab mm t=c) :
  Calls Tryz.prog 25 #[.pointer (some ⟨p,0,none⟩),.int .i64 root,.int .i64 1,.agg #[.string x.name,.int .i64 x.ino,.int .i64 x.kind]] w (qih z w c):=by
 subst hc
 cases mm with
 |false=>
  refine (qrf x hx w).mono ?_;rintro e w' ⟨rfl,f⟩;exact⟨0,rfl,λ_=>rfl,f.mono hz⟩
 |true=>
  cases t with
  |true=>
   obtain⟨y,_,hF,_⟩:=q85 ht;refine (h.swap hb hl hn x hx (some y) hF).mono ?_;rintro e w' ⟨-,h2⟩;obtain⟨r,u,rfl,_,_,T⟩:=h2 nofun;exact⟨r,rfl,λh=>absurd rfl h,T.below hV hz⟩
  |false=>
   refine (h.swap hb hl hn x hx none (q84 ht)).mono ?_;rintro e w' ⟨h1,-⟩;obtain⟨rfl,f⟩:=h1 rfl;exact⟨0,rfl,λ_=>rfl,f.mono hz⟩
theorem Solo.Qcv (h:Solo b w d p U Q V D P root L lim m g)(hb:1<b)(hl:lim<=100)(hn:2*lim+17+P.C.first<=P.C.n){z:Nat}(hV:∀k,V k->z<=k)(hz:z<=w.1.size)(n:ByteArray)(t:Bool)(ht:Zo n L=t)(c:Int)(hc:Qal t=c) :
  Calls Tryz.prog 22 #[.pointer (some ⟨p,0,none⟩),.int .i64 root,.int .i64 1,.string n] w (qih z w c):=by
 subst hc
 cases t with
 |true=>
  obtain⟨y,_,hF,_⟩:=q85 ht;refine (h.remove hb hl hn n (some y) hF).mono ?_;rintro e w' ⟨-,h2⟩;obtain⟨r,u,rfl,_,_,T⟩:=h2 nofun;exact⟨r,rfl,λh=>absurd rfl h,T.below hV hz⟩
 |false=>
  refine (h.remove hb hl hn n none (q84 ht)).mono ?_;rintro e w' ⟨h1,-⟩;obtain⟨rfl,f⟩:=h1 rfl;exact⟨0,rfl,λ_=>rfl,f.mono hz⟩
theorem Solo.Qb7 (h:Solo b w d p U Q V D P root L lim m g)(hl:lim<=100)(n:ByteArray)(t:Bool)(ht:Zo n L=t)(c:Int)(hc:Qal t=c) :
  Calls Tryz.prog 20 #[.pointer (some ⟨p,0,none⟩),.int .i64 root,.int .i64 1,.string n] w λe w'=>∃x:Za,e=.returned (.tuple #[.agg #[.string x.name,.int .i64 x.ino,.int .i64 x.kind],.int .i64 c])/\Below w.1.size w w':=by
 subst hc
 cases t with
 |true=>
  obtain⟨y,_,hF,_⟩:=q85 ht;exact (h.look hl n (some y) hF).mono λe w' ⟨h1,h2⟩=>⟨_,h1,h2⟩
 |false=>exact (h.look hl n none (q84 ht)).mono λe w' ⟨h1,h2⟩=>⟨_,h1,h2⟩
end
theorem Qb9 {x:Za}{r:Bool}(e:x.may=r):((1:Int)<=(x.name.size:Int)/\(x.name.size:Int)<=20/\1<=x.ino/\x.ino<=2147483647/\(x.kind==1)=true/\r=true)\/((1:Int)<=(x.name.size:Int)/\(x.name.size:Int)<=20/\1<=x.ino/\x.ino<=2147483647/\(x.kind==1)=false/\(x.kind==2)=true/\r=true)\/(¬(1:Int)<=(x.name.size:Int)/\r=false)\/((1:Int)<=(x.name.size:Int)/\¬(x.name.size:Int)<=20/\r=false)\/((1:Int)<=(x.name.size:Int)/\(x.name.size:Int)<=20/\¬1<=x.ino/\r=false)\/((1:Int)<=(x.name.size:Int)/\(x.name.size:Int)<=20/\1<=x.ino/\¬x.ino<=2147483647/\r=false)\/((1:Int)<=(x.name.size:Int)/\(x.name.size:Int)<=20/\1<=x.ino/\x.ino<=2147483647/\(x.kind==1)=false/\(x.kind==2)=false/\r=false):=by
 have hm:x.may=decide ((1<=x.name.size/\x.name.size<=20)/\(1<=x.ino/\x.ino<=2147483647)/\1<=x.kind/\x.kind<=2):=by
  unfold Za.may q9q Gz;simp only[Bool.decide_and]
 rw[e] at hm;subst hm;by_cases c:(1<=x.name.size/\x.name.size<=20)/\(1<=x.ino/\x.ino<=2147483647)/\1<=x.kind/\x.kind<=2
 ·rw[decide_eq_true c];simp only[and_true,beq_iff_eq,beq_eq_false_iff_ne];omega
 ·rw[decide_eq_false c];simp only[and_true,beq_iff_eq,beq_eq_false_iff_ne];omega
theorem dirBad_walk (A:Option Addr)(n c:Nat)(ss:List ByteArray)(f:ByteArray)(K M:Int)(w:World)(hS:Ko w A n c ss)(ht:Tab w) :
  Calls Tryz.prog 6 #[.slice A n c,.agg #[.string f,.int .i64 K,.int .i64 M]] w λe w'=>e=.returned (.bool true)/\Below w.1.size w w':=by
 have hG:=ht.1;have k1:=hS.cap;have j8:=hS.max;unfold maxLen at j8;have X0:IB (w.alloc (.cells #[.string f,.int .i64 K,.int .i64 M] 32)) w.1.size [.string f,.int .i64 K,.int .i64 M]:=IB.new w _ _;have b0:Below w.1.size w (w.alloc (.cells #[.string f,.int .i64 K,.int .i64 M] 32)):=Qk;have t0:=ht.below b0 hG;go_enter Tryz.func6,Tryz.ntmps6
 go_wp2_with fail
 generalize w.alloc (.cells #[.string f,.int .i64 K,.int .i64 M] 32)=wx at X0 b0 t0 ⊢;refine (qi8 wx t0).mono ?_;rintro e w1 ⟨rfl,b1⟩;have X1:=X0.below b1 X0.lt;have l0:=X1.lt;have B1:=b0.trans (b1.mono b0.size);have t1:=ht.below B1 hG;have z1:=B1.size;go_wp2_with fail
 refine (qcn 512 ⟨by omega,by omega⟩ w1 t1).mono ?_;rintro e w2 ⟨p,d0,U,D,rfl,E2,b2,hU⟩;have S2:=qks E2;have X2:=X1.below b2 l0;have B2:=B1.trans (b2.mono z1);have j9:(Pl.fresh 512).C.n=512:=qkm 512;have Z:1<w1.1.size:=by omega
 clear E2 t0 t1 X0 X1;go_wp2_with fail
 go_loopw [7,8,9] (λrv tv sv wr=>∃(j:Nat) (root:Int) (P:Pl) (L:List De),j<=n/\j<=20/\rv=.int .i64 root/\tv=.bool (Zo f L)/\sv=.int .i64 (j:Int)/\Solo w1.1.size wr d0 p U (λ_=>False) U D P root L j 100 2/\P.C.n=512/\IB wr w.1.size [.string f,.int .i64 K,.int .i64 M]/\Below w.1.size w wr/\w2.1.size<=wr.1.size) (λ_ _ sv _=>20-(intOf sv).toNat)
 case atStart=>exact⟨0,0,_,[],Nat.zero_le _,Nat.zero_le _,rfl,rfl,rfl,S2,j9,X2,B2,Nat.le_refl _⟩
 case round=>
  have k9:=B2.size;clear S2 X2;obtain⟨j,root,P,L,k7,k2,rfl,rfl,rfl,S,B,X,BB,l1⟩:=hrel;have k6:=qrb B;have j0:¬U w.1.size:=λh=>by have:=hU _ h;omega
  by_cases j7:j<n/\j<20
  ·obtain⟨g3,k3⟩:=j7;obtain⟨ad,rfl,k5,g1,k0⟩:=hS.cell g3;have F:∀u,Below w.1.size w u->u.cell? (ad.add j)=some (.string (txt ss j)):=λu hu=>(hu.cell (p:=ad.add j) (by rwa [Ls])).trans g1
   obtain⟨s,g4⟩:∃s,txt ss j=s:=⟨_,rfl⟩;rw[g4] at F k0;have F:=Lib.hid F;clear g1 g4;have c0:=F.out wr BB;have e0:(0:Int)<=(j:Int):=by omega
   have e1:(j:Int)<(n:Int):=by omega
   have e2:(j:Int)<20:=by omega
   cases e5:(⟨s,5,1⟩:Za).may with
   |false=>
    go_wp2_with fail
    refine (qkp ⟨s,5,1⟩ e5 wr).mono ?_;rintro e R ⟨rfl,b3⟩;have i1:=b3.size;go_wp2_with fail
    exact⟨⟨j+1,root,P,L,by omega,by omega,rfl,rfl,by go_num,(S.below b3).wider (by omega),B,X.below b3 X.lt,BB.trans (b3.mono BB.size),by omega⟩,by simp[intOf];omega⟩
   |true=>
    cases O:Zo s L with
    |true=>
     have hA:=Lib.hid (S.add Z (by omega) (by rw[B];omega) ⟨s,5,1⟩ e5 true O);go_wp2_with fail
     refine hA.out.mono ?_;rintro e R ⟨h3,-⟩;obtain⟨rfl,b3⟩:=h3 rfl;have i1:=b3.size;go_wp2_with fail
     exact⟨⟨j+1,root,P,L,by omega,by omega,rfl,rfl,by go_num,(S.below b3).wider (by omega),B,X.below b3 X.lt,BB.trans (b3.mono BB.size),by omega⟩,by simp[intOf];omega⟩
    |false=>
     have hA:=Lib.hid (S.add Z (by omega) (by rw[B];omega) ⟨s,5,1⟩ e5 false O);go_wp2_with fail
     refine hA.out.mono ?_;rintro e R ⟨-,h3⟩;obtain⟨r3,P3,rfl,S3,n3,k8,T3⟩:=h3 rfl;have X3:=X.keep (T3.block _ X.lt j0);have d8:Below w.1.size w R:=BB.trans (T3.below (λg hg=>by have:=hU g hg;omega) BB.size);have c3:=F.out R d8;have x0:=X3.cell 0 rfl;have l3:=X3.lt;have i1:=T3.size;have E:Zo f (L++[(Xm L,(⟨s,5,1⟩:Za))])=(Zo f L||eqS s f):=q5y f L _;clear hA h3 c0;obtain⟨v,hv⟩:∃v,Zo f L=v:=⟨_,rfl⟩;rw[hv] at E ⊢;replace hv:=Lib.hid hv;replace E:=Lib.hid E;have i7:P3.C.n=512:=n3.trans B;have fin:∀(w4:World) (r:Bool),Below R.1.size R w4->Zo f (L++[(Xm L,(⟨s,5,1⟩:Za))])=r->∃(j':Nat) (root:Int) (P:Pl) (L:List De),j'<=n/\j'<=20/\(Value.int .i64 r3=.int .i64 root)/\Value.bool r=.bool (Zo f L)/\Value.int .i64 ((j:Int)+1)=.int .i64 (j':Int)/\Solo w1.1.size w4 d0 p U (λ_=>False) U D P root L j' 100 2/\P.C.n=512/\IB w4 w.1.size [.string f,.int .i64 K,.int .i64 M]/\Below w.1.size w w4/\w2.1.size<=w4.1.size:=λw4 r hb hr=>⟨j+1,r3,P3,_,by omega,by omega,rfl,by rw[hr],rfl,(S3.below hb).wider (by omega),i7,X3.below hb X3.lt,d8.trans (hb.mono d8.size),by have:=hb.size;omega⟩
     replace fin:=Lib.hid fin
     cases v with
     |true=>
      go_wp2_with fail
      go_quiet (fail)
      have bD:=q0y (Below.refl R.1.size R);go_wp2_with fail
      exact⟨(by first|exact fin.out _ true (bD _) (by rw[E.out];rfl)|exact fin.out _ true (Below.refl _ _) (by rw[E.out];rfl)),by simp[intOf];omega⟩
     |false=>
      cases he:eqS s f with
      |true=>
       obtain rfl:=(q32 _ _).1 he;go_wp2_with fail
       go_quiet (fail)
       have bD:=q0y (Below.refl R.1.size R);go_wp2_with fail
       exact⟨(by first|exact fin.out _ true (bD _) (by rw[E.out,he];rfl)|exact fin.out _ true (Below.refl _ _) (by rw[E.out,he];rfl)),by simp[intOf];omega⟩
      |false=>
       have hq:(s.toList==f.toList)=false:=he;go_wp2_with fail
       go_quiet (fail)
       have bD:=q0y (Below.refl R.1.size R);go_wp2_with fail
       exact⟨(by first|exact fin.out _ false (bD _) (by rw[E.out,he];rfl)|exact fin.out _ false (Below.refl _ _) (by rw[E.out,he];rfl)),by simp[intOf];omega⟩
  ·obtain⟨t,O⟩:∃t,Zo f L=t:=⟨_,rfl⟩;obtain⟨mm,e4⟩:∃mm,(⟨f,K,M⟩:Za).may=mm:=⟨_,rfl⟩;have J:=Qb9 e4;dsimp only at J;obtain⟨c1,a2⟩:∃c,Qa3 mm t=c:=⟨_,rfl⟩;obtain⟨c2,a7⟩:∃c,Qab mm t=c:=⟨_,rfl⟩;obtain⟨c3,c6⟩:∃c,Qal t=c:=⟨_,rfl⟩;obtain⟨fr,e3⟩:∃fr,P.C.free=fr:=⟨_,rfl⟩;have hF:=S.ed.free fr e3;rw[O];have x0:=X.cell 0 rfl;have x1:=X.cell 1 rfl;have x2:=X.cell 2 rfl;have lx:=X.lt;have G:=Lib.hid O;have c7:=Lib.hid e4;have a6:=Lib.hid a2;have b4:=Lib.hid a7;have I:=Lib.hid c6;have J:=Lib.hid J;have g2:=Lib.hid e3;clear O e4 a2 a7 c6 e3;by_cases g3:j<n
   case' pos=>
    obtain rfl:j=20:=by omega
    have e1:(20:Int)<(n:Int):=by omega
    have e2:¬(20:Int)<20:=by omega
    go_wp2_with fail
   case' neg=>
    have e1:¬(j:Int)<(n:Int):=by omega
    go_wp2_with fail
   all_goals
    refine hF.mono ?_;rintro e R ⟨rfl,rfl⟩;go_upto_region 15 with fail
    go_cut [13] from 66 to 95 (λq wq=>q=.bool mm/\Below wr.1.size wr wq)
    case first=>
     rcases J.out with⟨d1,d2,d3,d4,d5,rfl⟩|⟨d1,d2,d3,d4,d5,d6,rfl⟩|⟨d1,rfl⟩|⟨d1,d2,rfl⟩|⟨d1,d2,d3,rfl⟩|⟨d1,d2,d3,d4,rfl⟩|⟨d1,d2,d3,d4,d5,d6,rfl⟩
     all_goals
      go_wp2_with fail
      go_meet
      exact⟨rfl,Below.refl _ _⟩
    case rest=>
     obtain⟨rfl,bq⟩:=hcut;have S4:=S.below bq;have X4:=X.below bq lx;have e8:=BB.trans (bq.mono BB.size);have z4:=bq.size;clear x0 x1 x2;have HC:=Lib.hid (λ(u:World) (hu:Below wc.1.size wc u)=>(S4.below hu).clone);have T:=Lib.hid (λ(u:World) (hu:Below wc.1.size wc u)=>(⟨(X4.below hu X4.lt).cell 0 rfl,(X4.below hu X4.lt).cell 1 rfl,(X4.below hu X4.lt).cell 2 rfl⟩:u.cell? ⟨w.1.size,0,none⟩=some (.string f)/\u.cell? ⟨w.1.size,1,none⟩=some (.int .i64 K)/\u.cell? ⟨w.1.size,2,none⟩=some (.int .i64 M)));have bD:Below wc.1.size wc wc.drew:=(Below.refl _ _).drew;have y:=T.out _ bD;have y':=T.out _ (Below.refl _ _);go_wp2_with fail
     go_region_held3 (λu=>u.cell? ⟨w.1.size,0,none⟩=some (.string f)/\u.cell? ⟨w.1.size,1,none⟩=some (.int .i64 K)/\u.cell? ⟨w.1.size,2,none⟩=some (.int .i64 M))
      (first|(with_reducible assumption)|exact y|exact y'|exact y5|exact y6)
      (first
       |(go_at_call 24;(with_reducible refine (HC.out wc.drew bD).mono ?_);rintro e w5 ⟨q,U',V',rfl,b5,SC,hV⟩;have f0:Below wc.1.size wc w5:=bD.trans b5;have y5:=T.out _ f0)
       |(go_at_call 21;(with_reducible refine (SC.Qcp Z (by omega) (by rw[B];omega) hV b5.size ⟨f,K,M⟩ mm t c7.out G.out c1 a6.out).mono ?_);rintro e w6 ⟨a1,rfl,f9,b6⟩;have f1:Below wc.1.size wc w6:=f0.trans b6;have y6:=T.out _ f1)
       |fail)
     have W:Below wc.1.size wc w6.drew:=f1.drew;have g9:=T.out _ W;go_wp2_with fail
     go_region_held3 (λu=>u.cell? ⟨w.1.size,0,none⟩=some (.string f)/\u.cell? ⟨w.1.size,1,none⟩=some (.int .i64 K)/\u.cell? ⟨w.1.size,2,none⟩=some (.int .i64 M))
      (first|(with_reducible assumption)|exact g9|exact y6|exact y7|exact y8)
      (first
       |(go_at_call 24;(with_reducible refine (HC.out w6.drew W).mono ?_);rintro e w7 ⟨q7,U7,V7,rfl,b7,i2,i8⟩;have f2:Below wc.1.size wc w7:=W.trans (b7.mono W.size);have y7:=T.out _ f2)
       |(go_at_call 25;(with_reducible refine (i2.Qch Z (by omega) (by rw[B];omega) i8 b7.size ⟨f,K,M⟩ mm t c7.out G.out c2 b4.out).mono ?_);rintro e w8 ⟨a8,rfl,g0,b8⟩;have f3:Below wc.1.size wc w8:=f2.trans (b8.mono W.size);have y8:=T.out _ f3)
       |fail)
     have Y:Below wc.1.size wc w8.drew:=f3.drew;have i0:=T.out _ Y;go_wp2_with fail
     go_region_held3 (λu=>u.cell? ⟨w.1.size,0,none⟩=some (.string f)/\u.cell? ⟨w.1.size,1,none⟩=some (.int .i64 K)/\u.cell? ⟨w.1.size,2,none⟩=some (.int .i64 M))
      (first|(with_reducible assumption)|exact i0|exact y8|exact y9|exact g5)
      (first
       |(go_at_call 24;(with_reducible refine (HC.out w8.drew Y).mono ?_);rintro e w9 ⟨q9,U9,V9,rfl,b9,i3,i9⟩;have f4:Below wc.1.size wc w9:=Y.trans (b9.mono Y.size);have y9:=T.out _ f4)
       |(go_at_call 22;(with_reducible refine (i3.Qcv Z (by omega) (by rw[B];omega) i9 b9.size f t G.out c3 I.out).mono ?_);rintro e e6 ⟨k4,rfl,d7,i4⟩;have H:Below wc.1.size wc e6:=f4.trans (i4.mono Y.size);have g5:=T.out _ H)
       |fail)
     have f8:=(S4.below H).Qb7 (by omega) f t G.out c3 I.out;obtain⟨g6,g7,g8⟩:=g5;go_wp2_with fail
     refine f8.mono ?_;rintro e c8 ⟨ex,rfl,e9⟩;have i5:Below c8.1.size c8 (c8.alloc (.cells #[.string ex.name,.int .i64 ex.ino,.int .i64 ex.kind] 32)):=Qk;have d9:Below e6.1.size e6 (c8.alloc (.cells #[.string ex.name,.int .i64 ex.ino,.int .i64 ex.kind] 32)):=e9.trans (i5.mono e9.size);have c9:Below wc.1.size wc (c8.alloc (.cells #[.string ex.name,.int .i64 ex.ino,.int .i64 ex.kind] 32)):=H.trans (d9.mono H.size);have i6:=Lib.hid ((S4.below c9).ed.free fr g2.out);have e7:=e8.trans (c9.mono e8.size);have a2:=a6.out;have a7:=b4.out;have c6:=I.out;clear y y' y5 y6 y7 g9 y8 y9 i0 T HC f8 g6 g7 g8 c7 G a6 b4 I
     cases mm<;>cases t
     all_goals
      simp only[Qa3,Qab,Qal,if_true,if_false,Bool.false_eq_true] at a2 a7 c6;subst a2 a7 c6;simp at f9 g0 d7;try subst f9
      try subst g0
      try subst d7
      go_wp2_with (go_at_call 23;refine i6.out.mono ?_;rintro e _ ⟨rfl,rfl⟩)
      go_ret;exact⟨rfl,e7⟩
