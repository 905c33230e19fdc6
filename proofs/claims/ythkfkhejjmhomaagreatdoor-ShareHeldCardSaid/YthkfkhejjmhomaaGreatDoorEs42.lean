/- The code's share: Step -/
import Derived.Test.YthkfkhejjmhomaaGreatDoorEs41
namespace Go.Proofs.YthkfkhejjmhomaaGreatDoor
open Go Go.RowKit Go.Proofs
set_option maxHeartbeats 8000000
set_option maxRecDepth 100000
section
variable {b:Nat}{w:World}{d p:Nat}{S0 S T:Nat->Prop}{D:DM}{P:Pl}{St:Sp}{C0:Ct}{Hd:List Int}
def qv1 (b:Nat)(w:World)(d p:Nat)(S0 S T:Nat->Prop)(D:DM)(P:Pl)(St:Sp)(C0:Ct)(Hd:List Int)(x:Int)(e:Ending)(w':World):Prop:=
 ∃A n c P',e=.returned (.tuple #[.slice A n c,.int .i64 0])/\Qa4 D St C0 Hd P x P'/\Qo w' w.1.size 3 1 A n c ((Vu P D x).map iv)/\Qe b w' d p S0 S T D P'/\Turn S w w'/\Tab w'
theorem qri (H:Qe b w d p S0 S T D P)(hb:1<b)(ht:Tab w){x:Int}(K:Keep D St C0 [] (x::Hd) P)(hE:P.Qd D x=0) :
  Calls Tryz.prog 39 #[.pointer (some ⟨p,0,none⟩),.int .i64 x] w (qv1 b w d p S0 S T D P St C0 Hd x):=by
 obtain⟨f,P',A,a1⟩:=qxt K hE;have hS:=H.low;have Hc:=q1l H.pool x _ rfl;obtain⟨G,hG⟩:∃G,P.C.get x=G:=⟨_,rfl⟩;rw[hG] at Hc;have Hc:=Lib.hid Hc;by_cases h1:G=1
 ·subst h1;have hm:=q1y K.Ze hE;have Hn:=q74 H.Ba H.pool K.Ze.kind ht x;obtain⟨M,Z⟩:∃M,P.Qa D x=M:=⟨_,rfl⟩;rw[hE,Z] at Hn;rw[Z] at hm;have Hn:=Lib.hid Hn;go_enter Tryz.func39,Tryz.ntmps39
  go_wp2_with fail
  refine Hc.out.mono ?_;rintro e w1 ⟨rfl,rfl⟩;go_wp2_with fail
  refine Hn.out.mono ?_;rintro e w6 ⟨A6,n6,c6,B6,m6,d6,rfl,b1,b0,a4,a5,b6⟩;obtain⟨wa,R⟩:∃v,w6.alloc (.cells #[.int .i64 M.lvl,.slice A6 n6 c6,.slice B6 m6 d6] 77)=v:=⟨_,rfl⟩;have ba:Below w6.1.size w6 wa:=by rw[<-R];exact Qn
  have R6:RB wa w6.1.size [.int .i64 M.lvl,.slice A6 n6 c6,.slice B6 m6 d6]:=by rw[<-R];exact⟨_,heap_alloc_new w6 _⟩
  have a8:=b6.size;have I:Below w.1.size w wa:=b6.trans (ba.mono a8);have y0:=R6.cell 0 rfl;have y1:=R6.cell 1 rfl;have y2:=R6.cell 2 rfl;have Y:=I.size;have Hk:=Lib.hid (q7t M (q1n hm) A6 n6 c6 B6 m6 d6 wa (a4.below ba).J5 ((a5.below ba).Kt (by omega)) (by omega) (by omega));have Ha:=H.below I;have ta:=ht.below I ht.1;by_cases hl:0<M.lvl
  ·have eU:G9 P D x=[x]:=if_neg λh=>h.2 (by rw[Z];exact hl)
   have eK:Vu P D x=M.named:=by rw[<-Z];exact if_pos ⟨hG,by rw[Z];exact hl⟩
   rw[eU] at f A;have a9:¬M.lvl<=0:=by omega
   go_wp2_with fail
   clear R;refine Hk.out.mono ?_;rintro e E ⟨A7,n7,c7,rfl,u,b7⟩;have l1:=Oi E x;have Q:Below E.1.size E (E.alloc (.cells #[.int .i64 x] 3)):=Qn;have F:=b7.trans (Q.mono b7.size);have y:=u.below Q;have z7:=b7.size;have Hu:=Lib.hid (q3s (P':=P') (Ha.below F) hb (ta.below F ta.1) [x] (some ⟨E.1.size,0,none⟩) 1 1 l1 (by omega) (λk B hs=>by
    have:E.1.size=k:=Option.some.inj B;have:=hS k hs;omega) λ_=>A)
   have X8:Turn S w (E.alloc (.cells #[.int .i64 x] 3)):=Qu (I.trans (F.mono Y));go_wp2_with fail
   refine Hu.out.mono ?_;rintro e w9 (⟨_,rfl,H9,X9,t9⟩|⟨J,_⟩)
   ·go_wp2;go_ret2;refine⟨A7,n7,c7,P',rfl,a1,?_,H9,X8.trans X9 λk B=>.inl B,t9⟩;rw[eK];exact (y.turned X9 λk B hs=>by have:=(y.Qc k B).1;have:=hS k hs;omega).less Y
   ·exact absurd f J
  ·have eU:G9 P D x=M.named++[x]:=by rw[<-Z];exact if_pos ⟨hG,by rw[Z];exact hl⟩
   have eK:Vu P D x=[]:=if_neg λh=>hl (by rw[<-Z];exact h.2)
   rw[eU] at f A;go_wp2_with fail
   clear R;refine Hk.out.mono ?_;rintro e E ⟨A7,n7,c7,rfl,u,b7⟩;have l1:=Oi E x;have Q:Below E.1.size E (E.alloc (.cells #[.int .i64 x] 3)):=Qn;have F:=b7.trans (Q.mono b7.size);have y:=u.below Q;have z7:=b7.size;have z8:=Q.size;have a6:=Qo.len u (by omega);rw[List.length_map] at a6;have b2:=q77 hm;go_wp2_with (first
    |(at_builtin;refine q0k rfl _ _ rfl wa.1.size A7 n7 c7 M.named rfl y _ 1 1 [x] rfl l1 (by omega) (by omega) ?_;intro A9 c9 w9 a0 b9)
    |fail)
   have B9:=(I.trans (F.mono Y)).trans (b9.mono Y);have H9:=H.below B9;have t9:=ht.below B9 ht.1;have X9:Turn S w w9:=Qu B9;have Hu:=Lib.hid (q3s (P':=P') H9 hb t9 (M.named++[x]) A9 (n7+1) c9 (a0.Kt (by omega)) (by omega) (λk B hs=>by have:=(a0.Qc k B).1;have:=hS k hs;omega) λ_=>A);go_wp2_with fail
   refine Hu.out.mono ?_;rintro e b3 (⟨_,rfl,a2,a3,a7⟩|⟨J,_⟩)
   ·go_wp2;go_ret2;exact⟨none,0,0,P',rfl,a1,by rw[eK];exact Ir _ _ _ _,a2,X9.trans a3 λk B=>.inl B,a7⟩
   ·exact absurd f J
 ·have eU:G9 P D x=[x]:=if_neg λh=>h1 (by rw[<-hG];exact h.1)
  have eK:Vu P D x=[]:=if_neg λh=>h1 (by rw[<-hG];exact h.1)
  rw[eU] at f A;have l1:=Oi w x;have Q:Below w.1.size w (w.alloc (.cells #[.int .i64 x] 3)):=Qn;have Hu:=Lib.hid (q3s (P':=P') (H.below Q) hb (ht.below Q ht.1) [x] (some ⟨w.1.size,0,none⟩) 1 1 l1 (by omega) (λk B hs=>by
   have:w.1.size=k:=Option.some.inj B;have:=hS k hs;omega) λ_=>A)
  have X8:Turn S w (w.alloc (.cells #[.int .i64 x] 3)):=Qu Q;go_enter Tryz.func39,Tryz.ntmps39
  go_wp2_with fail
  refine Hc.out.mono ?_;rintro e w1 ⟨rfl,rfl⟩;go_wp2_with fail
  refine Hu.out.mono ?_;rintro e w9 (⟨_,rfl,H9,X9,t9⟩|⟨J,_⟩)
  ·go_wp2;go_ret2;exact⟨none,0,0,P',rfl,a1,by rw[eK];exact Ir _ _ _ _,H9,X8.trans X9 λk B=>.inl B,t9⟩
  ·exact absurd f J
end
section
variable {D:DM}{S0:Sp}{C0:Ct}{O H:List Int}{P P' P'':Pl}
theorem qrj (K:Keep D S0 C0 O H P){x:Int}(e:P.Qd D x=0):(Vu P D x).length<=12:=by
 unfold Vu;split
 ·exact q77 (q1y K.Ze e)
 ·exact Nat.zero_le _
theorem Only.node (h:Only D P P')(K:Keep D S0 C0 O H P'){z:Int}(hz:z∈H)(hE:P.Qd D z=0)(hh:∀a:Nat,(a:Int)=z->0<a/\a<P.C.n)(hp:∃a:Nat,z=(a:Int)):P'.Qd D z=0/\P'.Qa D z=P.Qa D z:=by
 obtain⟨a,rfl⟩:=hp;obtain⟨h1,h2⟩:=hh a rfl;have e:=h.store _ (K.held hz h1 (by rw[h.n];exact h2));exact⟨(congrArg Prod.snd e).trans hE,congrArg Prod.fst e⟩
theorem q4j (K:Keep D S0 C0 O H P){z:Int}(f:P.Qd D z=0):∃a:Nat,z=(a:Int)/\0<a/\a<P.C.n:=by
 have h0:P.C.get z≠0:=λe=>by
  unfold Pl.Qd at f;rw[if_pos e] at f
  cases f
 obtain⟨c,rfl,u⟩:=Uc h0;exact⟨c,rfl,(K.first h0).1,u⟩
end
def ql8 (b:Nat)(w:World)(d p:Nat)(S0 S T:Nat->Prop)(D:DM)(P:Pl)(St:Sp)(C0:Ct)(Hd:List Int)(e:Ending)(w':World):Prop:=
 ∃P',e=.returned (.int .i64 0)/\Keep D St C0 [] Hd P'/\Only D P P'/\Qe b w' d p S0 S T D P'/\Turn S w w'/\Tab w'
def Le (b d p:Nat)(S0 S T:Nat->Prop)(D:DM)(St:Sp)(C0:Ct)(L:Nat):Prop:=
 ∀(w:World) (P:Pl) (Hd e:List Int) (A:Option Addr) (n c:Nat),Qe b w d p S0 S T D P->Tab w->Keep D St C0 [] (e++Hd) P->(∀z∈e,P.Qd D z=0/\(P.Qa D z).lvl<(L:Int))->Vw w A n c e->(∀k,q01 A=some k->¬S k)->n<=1000000->
  Calls Tryz.prog 82 #[.pointer (some ⟨p,0,none⟩),.slice A n c] w (ql8 b w d p S0 S T D P St C0 Hd)
section
variable {b:Nat}{d p:Nat}{S0 S T:Nat->Prop}{D:DM}{St:Sp}{C0:Ct}
theorem qni (hb:1<b)(L:Nat)(IH:∀L',L'<L->Le b d p S0 S T D St C0 L'):Le b d p S0 S T D St C0 L:=by
 intro w P Hd F A n c H ht K hz hs hA hn;have hl:=hs.len;rw[List.length_map] at hl;have hS:=H.low;have J:=Lib.hid IH;clear IH;go_enter Tryz.func82,Tryz.ntmps82
 go_wp2_with fail
 go_loopw [11] (λi wr=>∃(j:Nat) (u:Pl),j<=n/\i=.int .i64 (j:Int)/\Keep D St C0 [] (F.drop j++Hd) u/\Only D P u/\Qe b wr d p S0 S T D u/\Tab wr/\Turn S w wr) (λi _=>n-(intOf i).toNat)
 case atStart=>exact⟨0,P,Nat.zero_le _,rfl,K,Only.refl D P,H,ht,Turn.refl _ _⟩
 case round=>
  obtain⟨j,u,hj,rfl,B,Y,Q,tj,Xj⟩:=hrel;by_cases a2:j<n
  ·obtain⟨g,o,a1,y0,hg⟩:=q55 hs a2;subst a1;have y0:wr.cell? ⟨g,o+j,none⟩=some (.int .i64 (F.getD j 0)):=(World.cell?_of_block (w:=w) (a:=⟨g,o+j,none⟩) (Xj.block g hg (hA g rfl))).trans y0;have hd:=q9l (zs:=F) (j:=j) (by omega);obtain⟨z,I⟩:∃z,F.getD j 0=z:=⟨_,rfl⟩;rw[I] at y0 hd;rw[hd] at B;have a6:z∈F:=List.mem_of_mem_drop (i:=j) (by rw[hd];exact List.mem_cons_self ..);obtain⟨e1,e2⟩:=hz z a6;obtain⟨a,ea,a0,an⟩:=q4j K e1;obtain⟨f1,f2⟩:=Y.node B (z:=z) (List.mem_append_left _ (List.mem_cons_self ..)) e1 (λa' h=>⟨by omega,by omega⟩) ⟨a,ea⟩;have hm:=q1y B.Ze f1;have b0:0<=(u.Qa D z).lvl:=by
    by_cases h:(u.Qa D z).lvl=0
    ·omega
    ·have:=Fe hm h;omega
   rw[<-f2] at e2;have R:=Lib.hid (qri Q hb tj (x:=z) (Hd:=F.drop (j+1)++Hd) B f1);have a7:=qrj B f1;have a5:=Q.low;clear I hd ea a0 an f2 hm hl e1 hj;go_wp2_with fail
   refine R.out.mono ?_;rintro e w3 ⟨A3,n3,c3,P3,rfl,E,f,H3,X3,t3⟩;have a3:=Qo.len f (by omega);rw[List.length_map] at a3;have Z:=Xj.trans X3 λk G=>.inl G
   have M:=Lib.hid (J.out (L-1) (by omega) w3 P3 _ (Vu u D z) A3 n3 c3 H3 t3 E.keep (λy hy=>by
    obtain⟨q1,q2⟩:=E.kids y hy;exact⟨q1,by omega⟩) (f.Kt (by omega)) (λk G a4=>by have:=(f.Qc k G).1;have:=a5 k a4;omega) (by omega))
   go_wp2_with fail
   refine M.out.mono ?_;rintro e w4 ⟨P4,rfl,K4,O4,H4,X4,t4⟩;have XX:=Z.trans X4 λk G=>.inl G
   have OO:=(Y.trans E.only).trans O4;go_wp2;exact⟨⟨j+1,P4,by omega,by go_num,K4,OO,H4,t4,XX⟩,by simp[intOf];omega⟩
  ·have a9:j=n:=by omega
   have a8:¬(j:Int)<(n:Int):=by omega
   rw[List.drop_of_length_le (by omega),List.nil_append] at B;go_wp2;go_ret;exact⟨u,rfl,B,Y,Q,Xj,tj⟩
theorem qrk (f:1<b)(L:Nat):Le b d p S0 S T D St C0 L:=
 Nat.strongRecOn L λL e=>qni f L e
theorem qrl {w:World}{P:Pl}{Hd:List Int}(H:Qe b w d p S0 S T D P)(R:1<b)(A:Tab w){root:Int}(K:Keep D St C0 [] (Jy root++Hd) P)(f:root≠0->P.Qd D root=0) :
  Calls Tryz.prog 35 #[.pointer (some ⟨p,0,none⟩),.int .i64 root] w (ql8 b w d p S0 S T D P St C0 Hd):=by
 have Q:=H.low;by_cases h0:root=0
 ·subst h0;rw[show Jy 0=[] from rfl,List.nil_append] at K;go_enter Tryz.func35,Tryz.ntmps35
  go_wp2_with fail
  go_ret;exact⟨P,rfl,K,Only.refl D P,H,Turn.refl _ _,A⟩
 ·have e:Jy root=[root]:=if_neg h0;rw[e] at K;have f:=f h0;have hm:=q1y K.Ze f;have B:(P.Qa D root).lvl<((8:Nat):Int):=by
   by_cases h:(P.Qa D root).lvl=0
   ·omega
   ·have:=Fe hm h;omega
  have u:Below w.1.size w (w.alloc (.cells #[.int .i64 root] 3)):=Qn;have M:Turn S w (w.alloc (.cells #[.int .i64 root] 3)):=Qu u;have F:=Lib.hid (qrk R 8 _ P Hd [root] (some ⟨w.1.size,0,none⟩) 1 1 (H.below u) (A.below u A.1) K (λz Z=>by rw[List.mem_singleton.1 Z];exact⟨f,B⟩) (Oi w root) (λk y Y=>by
   have:w.1.size=k:=Option.some.inj y;have:=Q k Y;omega) (by omega))
  clear f hm B e;go_enter Tryz.func35,Tryz.ntmps35
  go_wp2_with fail
  refine F.out.mono ?_;rintro e w3 ⟨P',rfl,G,I,E,J,t'⟩;go_wp2;go_ret;exact⟨P',rfl,G,I,E,M.trans J λk y=>.inl y,t'⟩
theorem qgx {w:World}{P:Pl}(H:Qe b w d p S0 S T D P)(A:1<b)(B:Tab w)(root:Int)(h0:root≠0) :
  Calls Tryz.prog 29 #[.pointer (some ⟨p,0,none⟩),.int .i64 root] w λe w'=>e=.returned (.int .i64 (P.C.Yg root))/\Qe b w' d p S0 S T D ⟨P.S,P.C.ref root,P.L⟩/\Turn S w w'/\Tab w':=by
 have u:=Lib.hid (qw6 H A B root);go_enter Tryz.func29,Tryz.ntmps29
 go_wp2_with fail
 refine u.out.mono ?_;rintro e F ⟨rfl,f,y,E⟩;go_wp2;go_ret;exact⟨rfl,f,y,E⟩
theorem qd3 (w:World)(p:Option Addr) :
  Calls Tryz.prog 29 #[.pointer p,.int .i64 0] w λe w'=>e=.returned (.int .i64 0)/\w=w':=by
 go_enter Tryz.func29,Tryz.ntmps29
 go_wp2_with fail
 go_ret;exact⟨rfl,rfl⟩
end
section
variable {b:Nat}{w:World}{d p:Nat}{S0 S T:Nat->Prop}{D:DM}{P:Pl}
end
section
variable {b:Nat}{w:World}{d p:Nat}{U:Nat->Prop}{D:DM}{P:Pl}{H H0:List Int}{m:Nat}{g:Int}{root:Int}{its:List Qg}
structure Fj (b:Nat)(w w':World)(d p:Nat)(U:Nat->Prop)(D:DM)(P P':Pl)(H:List Int)(m:Nat)(g:Int):Prop where
 ed:Ed b w' d p U D P' H m g
 only:Only D P P'
 old:∀l a t,a∈H->Qi (P.store D) l a t->Qi (P'.store D) l a t
 turn:Turn U w w'
theorem q7d {l:Nat}{a:Int}{t:List Qg}(h:Qi (P.store D) l a t):P.Qd D a=0:=(Ce h).2.2
theorem ql9 {P':Pl}{S0 u:Sp}{C0 f:Ct}(K:Keep D S0 C0 [] H0 P)(K':Keep D u f [] H P')(h:Only D P P'):∀l a t,a∈H->Qi (P.store D) l a t->Qi (P'.store D) l a t:=λl a t y e=>by
 obtain⟨n,rfl,A,hn⟩:=q4j K (q7d e);exact h.tree K' l _ t (K'.held y A (by rw[h.n];exact hn)) e
theorem qgy {C:Ct}{c:Nat}{x:Int}(h0:C.get (c:Int)≠0)(F:x≠0):(C.put c x).free=C.free:=by
 refine Nat.le_antisymm ?_ (q9y h0);unfold Ct.free Ct.J3;rw[C.Zf];refine List.countP_mono_left λj u f=>?_
 have y:j<C.n:=List.mem_range.1 u;have B:(C.put c x).first=C.first:=by unfold Ct.first;rw[C.Zf]
 have E:j≠c:=λe=>by
  subst e;unfold Ct.may Ct.Vg at f;simp at f;have h1:=f.2.1;rw[q4t _ _ _ _ y,if_pos rfl] at h1;exact F h1
 unfold Ct.may Ct.Vg at f ⊢;have A:nm (C.put c x).now j=nm C.now j:=q34 C.now c j x (λe=>E e.symm);rw[A,B] at f;exact f
theorem qv2 {c:Nat}(h0:P.C.get (c:Int)≠0)(h1:P.C.get (c:Int)≠65535)(E:0<=P.C.get (c:Int)):Only D P ⟨P.S,P.C.ref (c:Int),P.L⟩:=by
 obtain⟨n,y,hn⟩:=Uc h0;obtain rfl:=Int.ofNat.inj y;obtain⟨B,e⟩:=qll h0 h1;have f:∀b,Pl.store ⟨P.S,P.C.ref (c:Int),P.L⟩ D b=P.store D b:=by rw[e];exact q7r hn h0 (by omega)
 refine⟨λa A u=>A ?_,λa _=>f a,ql6 P _,by show (P.C.ref (c:Int)).n=_;rw[e,P.C.Zf]⟩;show (P.C.ref (c:Int)).get a=0;rw[e];exact (q6l hn h0 (by omega) a).2 u
theorem Ed.hold (E:Ed b w d p U D P H m g)(hb:1<b)(h0:root≠0)(hE:P.Qd D root=0)(h1:P.C.get root<65535) :
  Calls Tryz.prog 29 #[.pointer (some ⟨p,0,none⟩),.int .i64 root] w λe w'=>e=.returned (.int .i64 0)/\Fj b w w' d p U D P ⟨P.S,P.C.ref root,P.L⟩ (root::H) m g/\(P.C.ref root).free=P.C.free/\∀a,(P.C.ref root).get a=P.C.get a+(if root=a then 1 else 0):=by
 obtain⟨M,Q,R,hs,k0,J⟩:=E.sys;obtain⟨S0,C0,K⟩:=E.keep;obtain⟨c,rfl,c0,Y⟩:=q4j K hE;have f:P.C.get (c:Int)≠0:=λe=>by
  unfold Pl.Qd at hE;rw[if_pos e] at hE
  cases hE
 have A:=Ct.Zd K.c (c:Int);obtain⟨r0,u,_⟩:=K.ref f (by omega) (by simp);have y:=qv2 (D:=D) f (by omega) A.1;have B:(P.C.ref (c:Int)).free=P.C.free:=by
  rw[(qll f (by omega)).2];exact qgy f (by omega)
 refine (qgx hs hb E.tab (c:Int) h0).mono ?_;rintro e w' ⟨rfl,F,X,t'⟩;rw[r0];refine⟨rfl,⟨⟨⟨M,Q,R,F,k0,J⟩,λk G=>⟨(E.low k G).1,by have:=(E.low k G).2;have:=X.size;omega⟩,t',⟨S0,C0,u⟩,E.Xw,E.gen⟩,y,λl a t Z I=>?_,X.mono J⟩,B,λa=>?_⟩
 ·obtain⟨n,rfl,n0,hn⟩:=q4j K (q7d I);exact y.tree u l _ t (u.held Z n0 (by rw[y.n];exact hn)) I
 ·rw[(qll f (by omega)).2];by_cases e:(c:Int)=a
  ·subst e;rw[Oh P.C c Y,if_pos rfl,if_pos rfl]
  ·rw[if_neg e,(q5e (D:=D) (P:=P) (λh=>e h.symm)).1];omega
theorem Ed.drop (E:Ed b w d p U D P (Jy root++H) m g)(hb:1<b)(hE:root≠0->P.Qd D root=0) :
  Calls Tryz.prog 35 #[.pointer (some ⟨p,0,none⟩),.int .i64 root] w λe w'=>∃P',e=.returned (.int .i64 0)/\Fj b w w' d p U D P P' H m g:=by
 obtain⟨F,G,I,J,M,B⟩:=E.sys;obtain⟨S0,C0,K⟩:=E.keep;refine (qrl J hb E.tab K hE).mono ?_;rintro e w' ⟨P',rfl,y,f,u,X,Q⟩;exact⟨P',rfl,⟨⟨F,G,I,u,M,B⟩,λk A=>⟨(E.low k A).1,by have:=(E.low k A).2;have:=X.size;omega⟩,Q,⟨S0,C0,y⟩,E.Xw,by rw[f.like.1];exact E.gen⟩,f,ql9 K y f,X.mono B⟩
end
theorem q8l (w:World)(Z:Tab w) :
  Calls Tryz.prog 27 #[] w λe w'=>∃p d U D,e=.returned (.pointer (some ⟨p,0,none⟩))/\Ed w.1.size w' d p U D (Pl.fresh 1024) [] 100 2/\Below w.1.size w w'/\(∀k,U k->w.1.size<=k):=by
 have hG:=Z.1;have hn:Qb 1024:=⟨by omega,by omega⟩;go_enter Tryz.func27,Tryz.ntmps27
 go_wp2_with fail
 refine (qwo 1024 hn w).mono ?_;rintro e w1 ⟨d,rfl,Y,G⟩;have t1:=Z.below G hG;go_wp2_with fail
 refine (qib Y ⟨rfl,rfl⟩ (by omega) t1 (qkb 1024) (by omega)).mono ?_;rintro e J ⟨p,q,rfl,u⟩;have F:(DM.mk0 1024).n=1024:=rfl;rw[F] at u;have y:=(q71 (Xq 1024) (qkb 1024)).mono (m':=100) (by have:=qyz (n:=1024) (by omega);omega);have I:=qne (n:=1024) (by omega) (by omega);obtain⟨R,B⟩:∃D,(DM.mk0 1024).Qx (Xq 1024)=D:=⟨_,rfl⟩;rw[B] at u y I;obtain⟨P,M⟩:∃P,Pl.fresh 1024=P:=⟨_,rfl⟩;have hg:P.S.gen=1:=by rw[<-M];rfl
 rw[M] at u I;have A:=qyy (b:=w.1.size) u (λk f=>f) G.size;have t2:=t1.turned u.turn (by omega);have z1:=G.size;have K:Below w.1.size w J:=G.trans (u.turn.below (λk f=>f) z1);obtain⟨S0,S,A⟩:=A;obtain⟨T,Q⟩:∃T:Nat->Prop,(λk=>w.1.size<=k/\k<J.1.size)=T:=⟨_,rfl⟩;have E:∀k,T k->w.1.size<=k/\k<J.1.size:=λk f=>by rw[<-Q] at f;exact f
 rw[Q] at A;have E2:Ed w.1.size J d p T R P [] 100 2:=⟨⟨S0,S,T,A,A.sub,A.Dv⟩,E,t2,⟨_,_,I⟩,y,by omega⟩;clear u Y Q B I y F;go_wp2_with fail
 go_ret;exact⟨p,d,T,R,rfl,M▸E2,K,λk f=>(E k f).1⟩
theorem q8m (x:Int)(m:Nat)(u:-9223372036854775808<=x/\x<=9223372036854775807)(f:0<m)(B:m<=1000000)(w:World) :
  Calls Tryz.prog 34 #[.int .i64 x,.int .i64 (m:Int)] w λe w'=>e=.returned (.int .i64 (md x m:Int))/\w=w':=by
 obtain⟨y,A⟩:=u;go_enter Tryz.func34,Tryz.ntmps34
 have hn:¬((m:Int)=0):=by omega
 by_cases h0:x<0
 ·have hm:=qz5 m h0 (by omega);go_wp2;go_ret;exact⟨q9z (by first|exact hm|simp),rfl⟩
 ·have hm:=qz4 m (show 0<=x by omega) (by omega);go_wp2;go_ret;exact⟨q9z (by first|exact hm|simp),rfl⟩
section
variable {b:Nat}{w w':World}{d p:Nat}{U:Nat->Prop}{D:DM}{P:Pl}{H H0 X:List Int}{m:Nat}{g:Int}{root:Int}{its:List Qg}
theorem Ed.told (E:Ed b w d p U D P H m g)(hT:Zl (P.store D) root its)(hr:Qk its)(hl:its.length<=150):Told w p (P.store D) root its:=⟨E.src,hT,hr,hl⟩
theorem Ed.Bh (_E:Ed b w d p U D P H m g)(hT:Zl (P.store D) root its):root≠0->P.Qd D root=0:=λh=>by
 rcases hT with⟨_,h0⟩|⟨l,_,e,_⟩
 ·exact absurd h0 h
 ·exact q7d e
theorem Ed.Qai (E:Ed b w d p U D P (Jy root++(X++H0)) m g)(hX:∀a∈X,P.Qd D a≠0)(hT:Zl (P.store D) root its){L:List (Nat × Int × List Qg)}(hL:Aw (P.store D) L)(hH:∀a∈H0,∃x∈L,x.2.1=a) :
  P.C.n<=P.C.free+(P.C.first+P.C.kept+(2*(its.length+(L.map λx=>x.2.2.length).sum)+X.length)):=by
 obtain⟨S0,C0,K⟩:=E.keep;have h2:=qra P.C;have y:∀M:List (Nat × Int × List Qg),(M.map λx=>(x.2.2.filterMap Y4).length).sum<=(M.map λx=>x.2.2.length).sum:=λM=>by
  induction M with
  |nil=>exact Nat.le_refl _
  |cons x r ih=>
   have:=List.length_filterMap_le Y4 x.2.2;simp only[List.map_cons,List.sum_cons];omega
 have f:∀{M:List (Nat × Int × List Qg)},Aw (P.store D) M->Aw (P.hide D []) M:=λh x u=>q2g.2 (h x u)
 rcases hT with⟨rfl,rfl⟩|⟨l,h0,B,_⟩
 ·have h1:=K.used (L:=L) (X:=X) (f hL) λa A=>by
   rcases List.mem_append.1 (show a∈X++H0 from A) with h|h
   ·exact .inr h
   ·exact .inl (hH a h)
  have h1:=h1 hX;have:=y L;simp only[List.length_nil];omega
 ·have e:Jy root=[root]:=if_neg (by omega);rw[e] at K;have h1:=K.used (L:=(l,root,its)::L) (X:=X) (f λx u=>by
   rcases List.mem_cons.1 u with rfl|u
   ·exact B
   ·exact hL x u) λa A=>by
   rcases List.mem_cons.1 (show a∈root::(X++H0) from A) with rfl|h
   ·exact .inl ⟨_,List.mem_cons_self ..,rfl⟩
   rcases List.mem_append.1 h with h|h
   ·exact .inr h
   ·obtain⟨x,u,e⟩:=hH a h;exact .inl ⟨x,List.mem_cons_of_mem _ u,e⟩
  have h1:=h1 hX;have:=y ((l,root,its)::L);simp only[List.map_cons,List.sum_cons] at h1 this;omega
end
section
open Go.ChangeShapes Go.WideShapes Go.ChangeAt Go.Deep
def Nj (z:Int)(k:Kd)(V:Option Addr)(q c:Nat):List Value:=[.int .i64 z,.int .i64 k.obj,.int .i64 k.kind,.int .i64 k.off,.slice V q c]
theorem qj0 {ops:Array Oper}{e:List Oper}{o:Oper}{a:Act}{w:World}{Q:Exit->Act->World->Prop}(B:o.guard=none)(x y:Operand)(f:o.op=Op.store 133 x y)
  (b:Nat) (E:a.eval x=.pointer (some ⟨b,0,none⟩)) (z:Int) (k:Kd) (V:Option Addr) (q c:Nat) (F:a.eval y=.agg #[.int .i64 z,.int .i64 k.obj,.int .i64 k.kind,.int .i64 k.off,.slice V q c]) {r:List Value} (H:RB w b r) (u:r.length=5)
  (A:∀w',RB w' b (Nj z k V q c)->Turn (λg=>g=b) w w'->wpList Tryz.prog ops Q e (a.put o.dst undef) w'):wpList Tryz.prog ops Q (o::e) a w:=
 wpList_store_mid B _ x y f b 0 (Nj z k V q c).toArray E F (by have:=H.there;rw[u] at this;exact this) (by kernel_rfl) (by simp[Nj,Value.oneCell'])
  (A _ (H.stored (Nj z k V q c) u) (Um (S:=λg=>g=b) rfl _ 0 w))
theorem qxu {w:World}{b:Nat}{z:Int}{k:Kd}{V:Option Addr}{q c:Nat}(H:RB w b (Nj z k V q c))(e:Int):RB (w.setCell ⟨b,2,none⟩ (.int .i64 e)) b (Nj z ⟨k.obj,e,k.off⟩ V q c):=by
 obtain⟨t,h⟩:=H;exact⟨t,Dz _ h⟩
structure U2 where
 z:Int
 k:Kd
 V:Option Addr
 q:Nat
 c:Nat
 v:List UInt8
def U2.vs (o:U2):List Value:=Nj o.z o.k o.V o.q o.c
structure U2.here (o:U2)(W:World):Prop where
 z:i64 o.z
 off:i64 o.k.off
 sl:Sl W o.V o.q o.c o.v
 few:o.q<=140737488355328
def Au (w:World)(A:Option Addr)(n c:Nat)(os:List U2):Prop:=Js w 5 A n c (os.map U2.vs)/\∀o∈os,o.here w
def opAt (os:List U2)(j:Nat):U2:=os.getD j ⟨0,⟨0,0,0⟩,none,0,0,[]⟩
theorem Au.cell {w:World}{A:Option Addr}{n c:Nat}{os:List U2}(h:Au w A n c os){j:Nat}(hj:j<n):∃g o,A=some ⟨g,o,none⟩/\g<w.1.size/\(opAt os j).here w/\
  ∀w',Below w.1.size w w'->w'.cell? ⟨g,o+j*5,none⟩=some (.int .i64 (opAt os j).z)/\w'.cell? ⟨g,o+j*5+1,none⟩=some (.int .i64 (opAt os j).k.obj)/\w'.cell? ⟨g,o+j*5+2,none⟩=some (.int .i64 (opAt os j).k.kind)/\w'.cell? ⟨g,o+j*5+3,none⟩=some (.int .i64 (opAt os j).k.off)/\w'.cell? ⟨g,o+j*5+4,none⟩=some (.slice (opAt os j).V (opAt os j).q (opAt os j).c):=by
 obtain⟨h1,h2⟩:=h;have B:os.length=n:=by have:=h1.1;rwa [List.length_map] at this
 have y:os[j]?=some (opAt os j):=by unfold opAt;simp[List.getD,show j<os.length by omega]
 obtain⟨g,o,rfl,e,_,u⟩:=h1.2.2.2 j _ (by rw[List.getElem?_map,y];rfl);refine⟨g,o,rfl,e,h2 _ (List.mem_of_getElem? y),λw' f=>?_⟩;exact⟨(f.cell (p:=⟨g,_,none⟩) e).trans (u 0 _ rfl),(f.cell (p:=⟨g,_,none⟩) e).trans (u 1 _ rfl),(f.cell (p:=⟨g,_,none⟩) e).trans (u 2 _ rfl),(f.cell (p:=⟨g,_,none⟩) e).trans (u 3 _ rfl),(f.cell (p:=⟨g,_,none⟩) e).trans (u 4 _ rfl)⟩
section
variable {H:Type}{enc:TypeId × Value->H}{W:World}
theorem qb9 {P:Program}{e:TypeId}:∀{l:List (DataW H)} {d:DataW H},d∈l->∀n∈d.weights P e,n∈DataW.weightsAll P e l
 |d'::r,d,hd,n,hn=>by
  simp only[DataW.weightsAll,List.mem_append];rcases List.mem_cons.1 hd with rfl|h
  ·exact Or.inl hn
  ·exact Or.inr (qb9 h n hn)
theorem qrm {P:Program}{t e:TypeId}{s:Nat}(hs:0<s)(ht:P.underlying t=some (.slice e))(hc:P.cellsOf e=s){fuel:Nat}{v:Value}{y:DataW H × List MemPlace}
  (hf:DataW.trod enc P W 0 (λ_=>true) true fuel t [v]=some y):∃A n c I,v=.slice A n c/\Js W s A n c I/\∀r∈I,∃f x,DataW.trod enc P W 0 (λ_=>true) true f e r=some x/\∀n∈x.1.weights P e,n∈y.1.weights P t:=by
 rcases Deep.open_slice ht hf with⟨E,_⟩|⟨a,len,cap,m,f,D,Pl,E,_,hl,hm,Q,hy,K⟩
 ·obtain rfl:v=.slice none 0 0:=by simpa using E
  exact⟨_,_,_,[],rfl,q8a W s,λr R=>by simp at R⟩
 ·obtain rfl:v=.slice (some a) len cap:=by simpa using E
  rw[if_pos rfl] at Q;have key:∀i,i<len->∃B:List Value,B.length=s/\(∀j,j<s->W.cell? ((a.add (i*s)).add j)=B[j]?)/\∃f x,DataW.trod enc P W 0 (λ_=>true) true f e B=some x/\∀n∈x.1.weights P e,n∈y.1.weights P t:=λi M=>by
   obtain⟨B,Z,g2⟩:=K i (by omega);rw[hc] at Z;obtain⟨_,G,J⟩:=World.cells?_some Z;refine⟨B,G,λj u=>J j u,_,_,g2,λn hn=>?_⟩;rw[hy];simp only[DataW.weights,ht,List.mem_cons,List.mem_append];exact .inr (.inl (qb9 (List.mem_map.2 ⟨i,List.mem_range.2 M,rfl⟩) n hn))
  obtain⟨g,o,sp⟩:=a;have ks:0<len->sp=none:=λh0=>by
   obtain⟨B,h1,h2,_⟩:=key 0 h0;have h3:=h2 0 hs;rw[List.getElem?_eq_getElem (by omega)] at h3;exact qmv (show W.cell? ⟨g,o,sp⟩=some (B[0]'(by omega)) by simpa [Addr.add] using h3)
  classical
  let F:Nat->List Value:=λi=>if h:i<len then (key i h).choose else []
  have hF:∀i (h:i<len),F i=(key i h).choose:=λi h=>dif_pos h
  refine⟨_,_,_,(List.range len).map F,rfl,⟨by simp,hl,hm,λj x Y=>?_⟩,λr R=>?_⟩
  ·have u:j<len:=by have:=(List.getElem?_eq_some_iff.1 Y).1;simpa using this
   rw[List.getElem?_map,List.getElem?_range u] at Y;obtain rfl:F j=x:=by simpa using Y
   obtain rfl:=ks (by omega);rw[hF j u];have hq:=(key j u).choose_spec;generalize (key j u).choose=X at hq ⊢;obtain⟨q1,q2,_⟩:=hq;have q3:∀i v,X[i]?=some v->W.cell? ⟨g,o+j*s+i,none⟩=some v:=λi v hv=>by
    have K:i<s:=by have:=(List.getElem?_eq_some_iff.1 hv).1;omega
    have:=q2 i K;rw[Addr.add_mid,Addr.add_mid,hv] at this;exact this
   exact⟨g,o,rfl,World.block_lt_of_cell? W _ (q3 0 _ (List.getElem?_eq_getElem (by omega))),q1,q3⟩
  ·obtain⟨j,u,rfl⟩:=List.mem_map.1 R;have u:=List.mem_range.1 u;rw[hF j u];exact (key j u).choose_spec.2.2
theorem q9v {m:Nat}{c:Value}{y:DataW H × List MemPlace}(h:DataW.trod enc Tryz.prog W 0 (λ_=>true) true m 3 [c]=some y):∃z,c=.int .i64 z/\i64 z:=by
 obtain⟨z,e,_,f⟩:=DataW.trod_int Tryz.underlying3 h;exact⟨z,by simpa using e,bounds_i64 f⟩
theorem qnj {α:Type}{e:List (List Value)}{Q:α->Prop}{f:α->List Value}(h:∀r∈e,∃x,r=f x/\Q x):∃u:List α,e=u.map f/\∀x∈u,Q x:=by
 induction e with
 |nil=>exact⟨[],rfl,λx A=>by cases A⟩
 |cons r l ih=>
  obtain⟨x,A,E⟩:=h r (List.mem_cons_self ..);obtain⟨u,h1,h2⟩:=ih λr F=>h r (List.mem_cons_of_mem _ F)
  exact⟨x::u,by rw[List.map_cons,<-A,<-h1],λy B=>by
   rcases List.mem_cons.1 B with rfl|B
   ·exact E
   ·exact h2 y B⟩
theorem qnk {fuel:Nat}{f u A:Value}{y:DataW H × List MemPlace}(K:DataW.trod enc Tryz.prog W 0 (λ_=>true) true fuel 45 [f,u,A]=some y):∃k:Kd,[f,u,A]=[.int .i64 k.obj,.int .i64 k.kind,.int .i64 k.off]/\i64 k.off:=by
 obtain⟨B,m,_,_,Q,E,e⟩:=DataW.trod_struct Tryz.underlying45 K;have M:Tryz.prog.cellsOf 3=1:=by kernel_rfl
 have F:DataW.trod enc Tryz.prog W 0 (λ_=>true) true m 3 (List.take (Tryz.prog.cellsOf 3) (List.drop 0 [f,u,A]))=B[0]?:=e 0 _ rfl;have G:DataW.trod enc Tryz.prog W 0 (λ_=>true) true m 3 (List.take (Tryz.prog.cellsOf 3) (List.drop 1 [f,u,A]))=B[1]?:=e 1 _ rfl;have I:DataW.trod enc Tryz.prog W 0 (λ_=>true) true m 3 (List.take (Tryz.prog.cellsOf 3) (List.drop 2 [f,u,A]))=B[2]?:=e 2 _ rfl;have R:B.length=3:=E;rw[M,List.getElem?_eq_getElem (by omega)] at F G I;obtain⟨a,rfl,_⟩:=q9v (by simpa using F);obtain⟨b,rfl,_⟩:=q9v (by simpa using G);obtain⟨c,rfl,J⟩:=q9v (by simpa using I);exact⟨⟨a,b,c⟩,rfl,J⟩
theorem qrn {fuel:Nat}{v:Value}{y:DataW H × List MemPlace}(u:DataW.trod enc Tryz.prog W 0 (λ_=>true) true fuel 48 [v]=some y)(G:∀n∈y.1.weights Tryz.prog 48,n<=reachBytes):∃A n c l,v=.slice A n c/\Sl W A n c l/\n<=140737488355328:=by
 obtain⟨A,n,c,l,rfl,F⟩:=qmw Az Tryz.underlying5 u;refine⟨A,n,c,l,rfl,F,?_⟩;rcases Deep.open_slice Az.sl u with⟨e,_⟩|⟨a,len,cap,m,f,D,Pl,e,_,K,hm,E,I,J⟩
 ·injection e with e;injection e with _ h2;omega
 ·injection e with e;injection e with _ h2;have B:Tryz.prog.bytesOf 5=1:=by kernel_rfl
  have:=G ((((List.range len).map D).length+((List.range (m-len)).map λj=>D (len+j)).length)*Tryz.prog.bytesOf 5) (by rw[I];simp[DataW.weights,Az.sl]);rw[B,List.length_map,List.length_range,List.length_map,List.length_range] at this;have M:reachBytes=140737488351232:=rfl;omega
theorem qnl {α:Type}:∀{l:List α},l.length=5->∃a b c d e,l=[a,b,c,d,e]
 |[a,b,c,d,e],_=>⟨a,b,c,d,e,rfl⟩
theorem qro {fuel:Nat}{B:List Value}{y:DataW H × List MemPlace}(hf:DataW.trod enc Tryz.prog W 0 (λ_=>true) true fuel 133 B=some y)(hw:∀n∈y.1.weights Tryz.prog 133,n<=reachBytes):∃o:U2,B=o.vs/\o.here W:=by
 obtain⟨u,m,_,hy,hl,G,e⟩:=DataW.trod_struct Tryz.underlying133 hf;have F:B.length=5:=by rw[hl];kernel_rfl
 obtain⟨I,J,K,M,Q,rfl⟩:=qnl F;have k1:Tryz.prog.cellsOf 3=1:=by kernel_rfl
 have k2:Tryz.prog.cellsOf 45=3:=by kernel_rfl
 have k3:Tryz.prog.cellsOf 48=1:=by kernel_rfl
 have R:DataW.trod enc Tryz.prog W 0 (λ_=>true) true m 3 (List.take (Tryz.prog.cellsOf 3) (List.drop 0 [I,J,K,M,Q]))=u[0]?:=e 0 _ rfl;have Y:DataW.trod enc Tryz.prog W 0 (λ_=>true) true m 45 (List.take (Tryz.prog.cellsOf 45) (List.drop 1 [I,J,K,M,Q]))=u[1]?:=e 1 _ rfl;have Z:DataW.trod enc Tryz.prog W 0 (λ_=>true) true m 48 (List.take (Tryz.prog.cellsOf 48) (List.drop 4 [I,J,K,M,Q]))=u[2]?:=e 2 _ rfl;have hx:u.length=3:=G;rw[k1,List.getElem?_eq_getElem (by omega)] at R;rw[k2,List.getElem?_eq_getElem (by omega)] at Y;rw[k3,List.getElem?_eq_getElem (by omega)] at Z;obtain⟨z,rfl,hz⟩:=q9v (by simpa using R);obtain⟨k,f,hk⟩:=qnk (by simpa using Y);have E:Tryz.prog.underlying 133=_:=Tryz.underlying133;obtain⟨A,n,c,l,rfl,hs,hn⟩:=qrn (by simpa using Z) λn hn=>hw n (by
  rw[hy];simp only[DataW.weights,E];exact DataW.weights_mem_each (j:=2) rfl (by rw[List.getElem?_map,List.getElem?_eq_getElem (by omega)];rfl) n hn)
 injection f with e1 f;injection f with e2 f;injection f with e3 _;subst e1 e2 e3;exact⟨⟨z,k,A,n,c,l⟩,rfl,⟨hz,hk,hs,hn⟩⟩
theorem qd4 {v:Value}{d:DataW H}{ps:List MemPlace}(I:∃a len cap,v=.slice a len cap)(h:DataW.Trod enc Tryz.prog W 0 (λ_=>true) true 61 v d ps)(J:∀n∈d.weights Tryz.prog 61,n<=reachBytes):∃A n c os,v=.slice A n c/\Au W A n c os:=by
 obtain⟨a,len,cap,rfl⟩:=I;obtain⟨fuel,B⟩:=h;obtain⟨A,n,c,M,e,G,F⟩:=qrm (s:=5) (by omega) Tryz.underlying61 (by kernel_rfl) B;obtain⟨os,rfl,E⟩:=qnj (f:=U2.vs) (Q:=λo=>o.here W) λr hm=>by
  obtain⟨f,y,K,hn⟩:=F r hm;exact qro K λn u=>J n (hn n u)
 exact⟨A,n,c,os,e,G,E⟩
end
end
def Uo (v:List UInt8):List UInt8:=if (v.take 28).length=3 then (v.take 28).set 0 7 else v.take 28
theorem qv3 (v:List UInt8):(Uo v).length<=28:=by
 unfold Uo;split
 ·rw[List.length_set,List.length_take];omega
 ·rw[List.length_take];omega
theorem qd5 (k:Kd)(v:List UInt8):Y4 ⟨k,Uo v⟩=none:=by
 unfold Y4;rw[if_neg];rintro⟨_,e,h1⟩;unfold Uo at e h1;split at e
 ·rename_i h;rw[if_pos h] at h1;generalize v.take 28=t at h h1;match t,h with
  |[x,y,z],_=>
   have h1:(7:UInt8).toNat=1:=h1;exact absurd h1 (by decide)
 ·rename_i h;exact h e
def Tv (k:Kd):Kd:=⟨k.obj,3,k.off⟩
theorem qxv {k:Kd}(h:k.may=true):(Tv k).may=true:=by
 unfold Kd.may at h ⊢;have h:=of_decide_eq_true h;exact decide_eq_true ⟨h.1,⟨by show (0:Int)<=3;omega,by show (3:Int)<=255;omega⟩,h.2.2⟩
def Bz (c:Nat):List UInt8:=[1,UInt8.ofNat (c / 256),UInt8.ofNat (c % 256)]
theorem qv4 {x:Qg}(h:Y4 x=none):nmI x=[]:=by unfold nmI;rw[h];rfl
theorem qxw {k:Kd}{c:Nat}(e:c<65536):nmI ⟨Tv k,Bz c⟩=[(c:Int)]:=by
 unfold nmI;rw[show Y4 ⟨Tv k,Bz c⟩=some (c:Int) from q7c (k:=Tv k) rfl e];rfl
theorem qla {R:Int->Nd × Int}{x:Qg}(h:Y4 x=none):Dat R x:=λc e=>by rw[h] at e;cases e
theorem qzb {R:Int->Nd × Int}{k:Kd}{c:Nat}(e:c<65536)(h:R (c:Int)=(Yh,0)):Dat R ⟨Tv k,Bz c⟩:=λd hd=>by
 rw[show Y4 ⟨Tv k,Bz c⟩=some (c:Int) from q7c (k:=Tv k) rfl e] at hd;rw[<-Option.some.inj hd];exact h
section
variable {b:Nat}{w w' w'':World}{d p:Nat}{U:Nat->Prop}{D:DM}{P P' P'':Pl}{H H0:List Int}{m:Nat}{g:Int}{root r r':Int}{its row row':List Qg}
structure Rf (b:Nat)(w w':World)(d p:Nat)(U:Nat->Prop)(D:DM)(P P':Pl)(r:Int)(H0:List Int)(row':List Qg)(m:Nat)(g:Int):Prop where
 ed:Ed b w' d p U D P' (Jy r++H0) m g
 tree:Zl (P'.store D) r row'
 Qk:Qk row'
 fine:∀x∈row',Zr x
 like:P.like P'
 n:P'.C.n=P.C.n
 old:∀l a t,a∈H0->Qi (P.store D) l a t->Qi (P'.store D) l a t
 turn:Turn U w w'
theorem Rf.below (h:Rf b w w' d p U D P P' r H0 row m g)(hb:Below w'.1.size w' w''):Rf b w w'' d p U D P P' r H0 row m g:=
 ⟨h.ed.below hb,h.tree,h.Qk,h.fine,h.like,h.n,h.old,h.turn.trans (Qu hb) λ_ h=>.inl h⟩
theorem Rf.then (h:Rf b w w' d p U D P P' r H0 row m g)(h2:Rf b w' w'' d p U D P' P'' r' H0 row' m g):Rf b w w'' d p U D P P'' r' H0 row' m g:=
 ⟨h2.ed,h2.tree,h2.Qk,h2.fine,h.like.trans h2.like,h2.n.trans h.n,λl a t e f=>h2.old l a t e (h.old l a t e f),h.turn.trans h2.turn λ_ h=>.inl h⟩
theorem Rt.chg (h:Rt b w w' d p U D P P' r H0 row m g)(hr:Qk row)(hf:∀x∈row,Zr x):Rf b w w' d p U D P P' r H0 row m g:=
 ⟨h.ed,h.tree,hr,hf,h.like,h.n,h.old,h.turn⟩
structure Bts (b:Nat)(w w':World)(d p:Nat)(U:Nat->Prop)(D:DM)(P P':Pl)(root:Int)(H0:List Int)(its:List Qg)(c:Nat)(m:Nat)(g:Int):Prop where
 ed:Ed b w' d p U D P' (Jy root++([(c:Int)]++H0)) m g
 tree:Zl (P'.store D) root its
 dat:P'.tell D (c:Int)=(Yh,0)
 small:c<2048
 like:P.like P'
 n:P'.C.n=P.C.n
 free:P.C.free=P'.C.free+1
 old:∀l a t,Qi (P.store D) l a t->Qi (P'.store D) l a t
 turn:Turn U w w'
theorem Ed.bytes (E:Ed b w d p U D P (Jy root++H0) m g)(hb:1<b)(hT:Zl (P.store D) root its)(hfree:1<=P.C.free){v:List UInt8}(hv:v.length<=128)(V:Option Addr)(q cV:Nat)(hV:Sl w V q cV v)(hVU:∀g,q01 V=some g->¬U g) :
  Calls Tryz.prog 73 #[.pointer (some ⟨p,0,none⟩),.int .i64 5,.slice V q cV] w λe w'=>∃(c:Nat) (P':Pl),e=.returned (.tuple #[.int .i64 (c:Int),.int .i64 0])/\Bts b w w' d p U D P P' root H0 its c m g:=by
 obtain⟨I,J,M,f,k0,B⟩:=E.sys;obtain⟨S0,C0,K⟩:=E.keep;obtain⟨c,Z⟩:∃c,P.C.pick=some c:=by
  cases h:P.C.pick with
  |some c=>exact⟨c,rfl⟩
  |none=>
   have:=Ct.X0 h;omega
 obtain⟨j1,j2,j3,j4,j5,j6,j7,F,j9,A,_,_⟩:=qnf K Z hv;have hold:∀l a t,Qi (P.store D) l a t->Qi ((P.put 5 v).store D) l a t:=λl a t h=>by
  have h1:=q2g.2 h;exact q2g.1 (q13 j5 h1)
 have hS:=f.low;refine (qe0 f.pool (λk u=>(f.tight k u).2) (λh=>by have:=(f.tight _ h).1;omega) 5 V q cV v hV (λhn Q e h=>hVU Q.block (by rw[e];rfl) (B _ h)) E.tab).mono ?_;rintro e w' ⟨rfl,R,X⟩;rw[j1,j2];have y:=f.step R X;have G:Keep D S0 C0 [] (Jy root++([(c:Int)]++H0)) (P.put 5 v):=j3.perm λa _ _=>by
  simp only[List.count_append,List.count_cons,List.count_nil];omega
 refine⟨c,_,rfl,⟨⟨I,J,M,y,k0,B⟩,λk u=>⟨(E.low k u).1,by have:=(E.low k u).2;have:=X.size;omega⟩,f.tab hb E.tab X,⟨S0,C0,G⟩,E.Xw,by rw[F.1];exact E.gen⟩,?_,j4,A,F,j7,j6,hold,X.mono B⟩;rcases hT with h|⟨l,h1,h2,Y⟩
 ·exact .inl h
 ·exact .inr ⟨l,h1,hold _ _ _ h2,Y⟩
end
