/- The laws of dir: any call of the law's world; its start, and its end. -/
import Derived.Test.YtnjacafcocnicaaGreatDoorDv42
namespace Go.Proofs.YtnjacafcocnicaaGreatDoor
open Go Go.RowKit Go.Proofs Tryz
set_option maxHeartbeats 16000000
set_option maxRecDepth 10000
section
variable {b:Nat}{w:WD}{q d p:Nat}{U V:NP}{D:DM}{P:Pl}{m:Nat}{g:Int}{root:Int}{L:Nat->List De}{T:Nat->Rw}{lim:Nat}
theorem qg0 (h:Yb b w q d p U V D P root L T lim m g)(hb:1<b)(hl:lim<=79)(hm:m<=490000)(hg:g<=900000)(o:Pz)(ho:o.here) :
  Calls prog 7 #[.pointer (some ⟨q,0,none⟩),.agg #[.int .i64 o.z,.int .i64 o.d,.string o.x.name,.int .i64 o.x.ino,.int .i64 o.x.kind]] w (Px b w q d p U V lim m g):=by
 have h8:md o.z 8<8:=qCj _ (by omega);have N1:IB (w.alloc (.cells #[.int .i64 o.z,.int .i64 o.d,.string o.x.name,.int .i64 o.x.ino,.int .i64 o.x.kind] 34)) w.1.size o.vs:=IB.new w _ _;have b1:Below w.1.size w (w.alloc (.cells #[.int .i64 o.z,.int .i64 o.d,.string o.x.name,.int .i64 o.x.ino,.int .i64 o.x.kind] 34)):=Qi;obtain⟨B,b9⟩:∃u,w.alloc (.cells #[.int .i64 o.z,.int .i64 o.d,.string o.x.name,.int .i64 o.x.ino,.int .i64 o.x.kind] 34)=u:=⟨_,rfl⟩;rw[b9] at N1 b1;have h1:=h.below b1;have hE:=HI h.Jv.Ze.ed.low;clear h;have G:md o.d 3<3:=qCj _ (by omega);have W:=qdv o.d 3 ho.d (by omega) (by omega) B;have Y:=qdv o.z 8 ho.z (by omega) (by omega) B;obtain⟨k,hk⟩:∃k,md o.d 3=k:=⟨_,rfl⟩;rw[hk] at W G;have n0:=N1.cell 0 rfl;have n1:=N1.cell 1 rfl;have n2:=N1.cell 2 rfl;have n3:=N1.cell 3 rfl;have n4:=N1.cell 4 rfl;have M:=qbp h1.blk G;have hp:=h1.blk.cell 0 rfl;have hr:=h1.blk.cell 1 rfl;have e0:(0:Int)<=(k:Int):=by omega
 have e1:(k:Int)<3:=by omega
 replace W:=HI W;replace Y:=HI Y;go_enter func7,ntmps7
 go_wp2_with fail
 refine W.out.mono ?_;rintro e w2 ⟨rfl,rfl⟩;go_wp2_with fail
 refine Y.out.mono ?_;rintro e w2 ⟨rfl,rfl⟩;rcases (show (md o.z 8=0\/md o.z 8=1\/md o.z 8=2)\/md o.z 8=3\/md o.z 8=4\/md o.z 8=5\/md o.z 8=6\/md o.z 8=7 by omega) with hz|hz|hz|hz|hz|hz
 ·as_aux_lemma=>
   rcases hz with hz|hz|hz<;>rw[hz]
   all_goals (
    cases hx:o.x.may with
    |false=>
     have K:=λu:WD=>HI (qxh (p:=p) (root:=root) (i:=(k:Int)+1) o.x hx u)
     have f:∀u:WD,Below B.1.size B u->u.cell? ⟨q,0,none⟩=some (.pointer (some ⟨p,0,none⟩))/\u.cell? ⟨q,1,none⟩=some (.int .i64 root)/\u.cell? ⟨w.1.size,2,none⟩=some (.string o.x.name)/\u.cell? ⟨w.1.size,3,none⟩=some (.int .i64 o.x.ino)/\u.cell? ⟨w.1.size,4,none⟩=some (.int .i64 o.x.kind):=λu O=>by
      have Z:=h1.blk.below O h1.blk.lt;have hn:=N1.below O N1.lt;exact⟨Z.cell 0 rfl,Z.cell 1 rfl,hn.cell 2 rfl,hn.cell 3 rfl,hn.cell 4 rfl⟩
     have A:Below B.1.size B B.drew:=(AI _ _).drew;go_wp2_with fail
     have hw:IntKind.i64.wrap ((k:Int)+1)=(k:Int)+1:=IntWalk.i64_in _ (by omega);go_region_held3 (λu=>u.cell? ⟨q,0,none⟩=some (.pointer (some ⟨p,0,none⟩))/\u.cell? ⟨q,1,none⟩=some (.int .i64 root)/\u.cell? ⟨w.1.size,2,none⟩=some (.string o.x.name)/\u.cell? ⟨w.1.size,3,none⟩=some (.int .i64 o.x.ino)/\u.cell? ⟨w.1.size,4,none⟩=some (.int .i64 o.x.kind))
      (first|assumption|exact f _ A|exact f _ (A.trans (by assumption)))
      (first
       |(go_at_call 13;refine (K _).out.mono ?_;rintro e J ⟨rfl,b5⟩)
       |fail)
     have I:Below B.1.size B J:=A.trans b5;obtain⟨-,-,m2,m3,m4⟩:=f _ I;have Q:=HI (qwq (T k).1 (T k).2.1 (T k).2.2 o.x J hx);clear f K A W Y n0 n1 n2 n3 n4 M hp hr b5;go_wp2_with fail
     refine Q.out.mono ?_;rintro e w6 ⟨rfl,b6⟩;have B6:=I.trans (b6.mono I.size);have hS:=HI (qic (h1.below B6).blk G 1 (by omega) (T k).1 (T k).2.1 (T k).2.2);clear Q m2 m3 m4;go_wp2_with fail
     refine hS.out.mono ?_;rintro e w7 ⟨rfl,I7,X7⟩;clear hS;go_wp2_with fail
     go_ret;exact q53 h1 hb b1 B6 I7 X7
    |true=>
     have A:Below B.1.size B B.drew:=(AI _ _).drew;have R:=q9y (h1.Jv.Ze.rows k G) o.x.name;rcases q1u o.x.name (L k) with⟨f1,f2,-⟩|⟨y,-,f1,f2,-⟩
     ·rw[f1] at R;have K:=HI ((h1.below A).Jv.add hb (by omega) G o.x hx false f2);have f:∀u:WD,Turn V B.drew u->u.cell? ⟨q,0,none⟩=some (.pointer (some ⟨p,0,none⟩))/\u.cell? ⟨q,1,none⟩=some (.int .i64 root)/\u.cell? ⟨w.1.size,2,none⟩=some (.string o.x.name)/\u.cell? ⟨w.1.size,3,none⟩=some (.int .i64 o.x.ino)/\u.cell? ⟨w.1.size,4,none⟩=some (.int .i64 o.x.kind):=λu O=>by
       have Z:=h1.blk.keep (O.block q h1.blk.lt λhV=>h1.Gv (h1.sub q hV));have hn:=N1.keep (O.block w.1.size N1.lt λhV=>by have:=(hE.out _ (h1.sub _ hV)).2;omega);exact⟨Z.cell 0 rfl,Z.cell 1 rfl,hn.cell 2 rfl,hn.cell 3 rfl,hn.cell 4 rfl⟩
      go_wp2_with fail
      have hw:IntKind.i64.wrap ((k:Int)+1)=(k:Int)+1:=IntWalk.i64_in _ (by omega);go_region_held3 (λu=>u.cell? ⟨q,0,none⟩=some (.pointer (some ⟨p,0,none⟩))/\u.cell? ⟨q,1,none⟩=some (.int .i64 root)/\u.cell? ⟨w.1.size,2,none⟩=some (.string o.x.name)/\u.cell? ⟨w.1.size,3,none⟩=some (.int .i64 o.x.ino)/\u.cell? ⟨w.1.size,4,none⟩=some (.int .i64 o.x.kind))
       (first|assumption|exact f _ (Turn.refl _ _)|exact f _ X5)
       (first
        |(go_at_call 13;refine K.out.mono ?_;rintro e J ⟨-,a1⟩;obtain⟨r5,P5,rfl,h5,b8,X5⟩:=a1 rfl)
        |fail)
      obtain⟨-,-,m2,m3,m4⟩:=f _ X5;have a6:=h1.stay G ((Qz A).trans X5 λ_ h=>.inl h) (AI _ _) (Turn.refl _ J);have a2:(T k).2.1<=1000:=by
       have e1:=a6.len;have e2:=h1.Jv.Ze.few;rw[q2u] at e1;rw[q6l] at e2;rcases (show k=0\/k=1\/k=2 by omega) with rfl|rfl|rfl<;>omega
      have Q:=HI (qwp (T k).1 (T k).2.1 (T k).2.2 (J5 (L k)) o.x J a6 a2 hx R);clear f K W Y n0 n1 n2 n3 n4 M hp hr;go_wp2_with fail
      refine Q.out.mono ?_;rintro e w6 ⟨A6,c6,rfl,H⟩;clear Q m2 m3 m4;have I6:IB w6 q (Uf p root T):=(h1.blk.keep (((Qz A).trans X5 λ_ h=>.inl h).block q h1.blk.lt λhV=>h1.Gv (h1.sub q hV))).below H.below (by have:=h1.blk.lt;have:=X5.size;have:=A.size;omega);have hS:=HI (qtn I6 G r5 A6 ((T k).2.1+1) c6 rfl (.inl b8));go_wp2_with fail
      refine hS.out.mono ?_;rintro e w7 ⟨rfl,I7,X7⟩;clear hS;go_wp2_with fail
      go_ret;have hP:=h1.step hb h5 ((Qz A).trans X5 λ_ h=>.inl h) (λj hj=>q3c _ hj) H.below (by rw[q52,qme];exact H.row) H.blk I7 X7;exact qbq hP hE.out h1.sub b1 ((Qz A).trans X5 λ_ h=>.inl h) H.below X7
     ·rw[f1] at R;have K:=HI ((h1.below A).Jv.add hb (by omega) G o.x hx true f2);have f:∀u:WD,Below B.1.size B u->u.cell? ⟨q,0,none⟩=some (.pointer (some ⟨p,0,none⟩))/\u.cell? ⟨q,1,none⟩=some (.int .i64 root)/\u.cell? ⟨w.1.size,2,none⟩=some (.string o.x.name)/\u.cell? ⟨w.1.size,3,none⟩=some (.int .i64 o.x.ino)/\u.cell? ⟨w.1.size,4,none⟩=some (.int .i64 o.x.kind):=λu O=>by
       have Z:=h1.blk.below O h1.blk.lt;have hn:=N1.below O N1.lt;exact⟨Z.cell 0 rfl,Z.cell 1 rfl,hn.cell 2 rfl,hn.cell 3 rfl,hn.cell 4 rfl⟩
      go_wp2_with fail
      have hw:IntKind.i64.wrap ((k:Int)+1)=(k:Int)+1:=IntWalk.i64_in _ (by omega);go_region_held3 (λu=>u.cell? ⟨q,0,none⟩=some (.pointer (some ⟨p,0,none⟩))/\u.cell? ⟨q,1,none⟩=some (.int .i64 root)/\u.cell? ⟨w.1.size,2,none⟩=some (.string o.x.name)/\u.cell? ⟨w.1.size,3,none⟩=some (.int .i64 o.x.ino)/\u.cell? ⟨w.1.size,4,none⟩=some (.int .i64 o.x.kind))
       (first|assumption|exact f _ A|exact f _ (A.trans (by assumption)))
       (first
        |(go_at_call 13;refine K.out.mono ?_;rintro e J ⟨a1,-⟩;obtain⟨rfl,b5⟩:=a1 rfl)
        |fail)
      have I:Below B.1.size B J:=A.trans b5;obtain⟨-,-,m2,m3,m4⟩:=f _ I;have Q:=HI (qou (T k).1 (T k).2.1 (T k).2.2 (J5 (L k)) o.x y.2 J ((h1.row k G).below I) hx R);clear f K W Y n0 n1 n2 n3 n4 M hp hr b5 A;go_wp2_with fail
      refine Q.out.mono ?_;rintro e w6 ⟨rfl,b6⟩;have B6:=I.trans (b6.mono I.size);have hS:=HI (qic (h1.below B6).blk G 11 (by omega) (T k).1 (T k).2.1 (T k).2.2);clear Q m2 m3 m4;go_wp2_with fail
      refine hS.out.mono ?_;rintro e w7 ⟨rfl,I7,X7⟩;clear hS;go_wp2_with fail
      go_ret;exact q53 h1 hb b1 B6 I7 X7)
 ·as_aux_lemma=>
   rw[hz];have A:Below B.1.size B B.drew:=(AI _ _).drew;have R:=q9y (h1.Jv.Ze.rows k G) o.x.name;have a2:(T k).2.1<=1000:=by
    rw[h1.lens k G];exact h1.short hl G
   rcases q1u o.x.name (L k) with⟨f1,f2,f3⟩|⟨y,hy,f1,f2,f3⟩
   ·clear R;have K:=HI ((h1.below A).Jv.remove hb (by omega) G o.x.name none f1);have f:∀u:WD,Below B.1.size B u->u.cell? ⟨q,0,none⟩=some (.pointer (some ⟨p,0,none⟩))/\u.cell? ⟨q,1,none⟩=some (.int .i64 root)/\u.cell? ⟨w.1.size,2,none⟩=some (.string o.x.name):=λu O=>by
     have Z:=h1.blk.below O h1.blk.lt;have hn:=N1.below O N1.lt;exact⟨Z.cell 0 rfl,Z.cell 1 rfl,hn.cell 2 rfl⟩
    go_wp2_with fail
    have hw:IntKind.i64.wrap ((k:Int)+1)=(k:Int)+1:=IntWalk.i64_in _ (by omega);go_region_held3 (λu=>u.cell? ⟨q,0,none⟩=some (.pointer (some ⟨p,0,none⟩))/\u.cell? ⟨q,1,none⟩=some (.int .i64 root)/\u.cell? ⟨w.1.size,2,none⟩=some (.string o.x.name))
     (first|assumption|exact f _ A|exact f _ (A.trans (by assumption)))
     (first
      |(go_at_call 19;refine K.out.mono ?_;rintro e J ⟨a1,-⟩;obtain⟨rfl,b5⟩:=a1 rfl)
      |fail)
    have I:Below B.1.size B J:=A.trans b5;obtain⟨-,-,m2⟩:=f _ I;have Q:=HI (qmj (T k).1 (T k).2.1 (T k).2.2 (J5 (L k)) o.x.name J ((h1.row k G).below I) a2 (J5 (Gl o.x.name (L k))) (qmf _ _).symm);clear f K W Y n0 n1 n2 n3 n4 M hp hr;go_wp2_with fail
    refine Q.out.mono ?_;rintro e w6 (⟨-,rfl,b6⟩|⟨b0,-⟩);rotate_left
    ·exact absurd (by rw[qwo _ f3]) b0
    have B6:=I.trans (b6.mono I.size);have hS:=HI (qic (h1.below B6).blk G 10 (by omega) (T k).1 (T k).2.1 (T k).2.2);clear Q;go_wp2_with fail
    refine hS.out.mono ?_;rintro e w7 ⟨rfl,I7,X7⟩;clear hS;go_wp2_with fail
    go_ret;exact q53 h1 hb b1 B6 I7 X7
   ·clear R;have K:=HI ((h1.below A).Jv.remove hb (by omega) G o.x.name (some y) f1);have f:∀u:WD,Turn V B.drew u->u.cell? ⟨q,0,none⟩=some (.pointer (some ⟨p,0,none⟩))/\u.cell? ⟨q,1,none⟩=some (.int .i64 root)/\u.cell? ⟨w.1.size,2,none⟩=some (.string o.x.name):=λu O=>by
     have Z:=h1.blk.keep (O.block q h1.blk.lt λhV=>h1.Gv (h1.sub q hV));have hn:=N1.keep (O.block w.1.size N1.lt λhV=>by have:=(hE.out _ (h1.sub _ hV)).2;omega);exact⟨Z.cell 0 rfl,Z.cell 1 rfl,hn.cell 2 rfl⟩
    go_wp2_with fail
    have hw:IntKind.i64.wrap ((k:Int)+1)=(k:Int)+1:=IntWalk.i64_in _ (by omega);go_region_held3 (λu=>u.cell? ⟨q,0,none⟩=some (.pointer (some ⟨p,0,none⟩))/\u.cell? ⟨q,1,none⟩=some (.int .i64 root)/\u.cell? ⟨w.1.size,2,none⟩=some (.string o.x.name))
     (first|assumption|exact f _ (Turn.refl _ _)|exact f _ X5)
     (first
      |(go_at_call 19;refine K.out.mono ?_;rintro e J ⟨-,a1⟩;obtain⟨r5,P5,rfl,h5,a8,X5⟩:=a1 (λhh=>by cases hh))
      |fail)
    obtain⟨-,-,m2⟩:=f _ X5;have XX:=(Qz A (S:=V)).trans X5 λ_ h=>.inl h
    have a6:=h1.stay G XX (AI _ _) (Turn.refl _ J);have Q:=HI (qmj (T k).1 (T k).2.1 (T k).2.2 (J5 (L k)) o.x.name J a6 a2 (J5 (Gl o.x.name (L k))) (qmf _ _).symm);clear f K W Y n0 n1 n2 n3 n4 M hp hr;go_wp2_with fail
    refine Q.out.mono ?_;rintro e w6 (⟨b0,-⟩|⟨-,A6,n6,c6,rfl,H⟩)
    ·have:=qsk hy f3;rw[q2u,q2u] at b0;omega
    clear Q;have I6:IB w6 q (Uf p root T):=(h1.blk.keep (XX.block q h1.blk.lt λhV=>h1.Gv (h1.sub q hV))).below H.below (by have:=h1.blk.lt;have:=X5.size;have:=A.size;omega);have hS:=HI (qtn I6 G r5 A6 n6 c6 rfl (qid a8 G h1.lens (by rw[<-H.row.len];exact q2u _)));go_wp2_with fail
    refine hS.out.mono ?_;rintro e w7 ⟨rfl,I7,X7⟩;clear hS;go_wp2_with fail
    go_ret;have hP:=h1.step hb h5 XX (λj hj=>q3c _ hj) H.below (by rw[q52];exact H.row) H.blk I7 X7;exact qbq hP hE.out h1.sub b1 XX H.below X7
 ·as_aux_lemma=>
   rw[hz]
   cases hx:o.x.may with
   |false=>
    have A:Below B.1.size B B.drew:=(AI _ _).drew;have K:=λu:WD=>HI (qtf (p:=p) (root:=root) (i:=(k:Int)+1) o.x hx u)
    have f:∀u:WD,Below B.1.size B u->u.cell? ⟨q,0,none⟩=some (.pointer (some ⟨p,0,none⟩))/\u.cell? ⟨q,1,none⟩=some (.int .i64 root)/\u.cell? ⟨w.1.size,2,none⟩=some (.string o.x.name)/\u.cell? ⟨w.1.size,3,none⟩=some (.int .i64 o.x.ino)/\u.cell? ⟨w.1.size,4,none⟩=some (.int .i64 o.x.kind):=λu O=>by
     have Z:=h1.blk.below O h1.blk.lt;have hn:=N1.below O N1.lt;exact⟨Z.cell 0 rfl,Z.cell 1 rfl,hn.cell 2 rfl,hn.cell 3 rfl,hn.cell 4 rfl⟩
    go_wp2_with fail
    have hw:IntKind.i64.wrap ((k:Int)+1)=(k:Int)+1:=IntWalk.i64_in _ (by omega);go_region_held3 (λu=>u.cell? ⟨q,0,none⟩=some (.pointer (some ⟨p,0,none⟩))/\u.cell? ⟨q,1,none⟩=some (.int .i64 root)/\u.cell? ⟨w.1.size,2,none⟩=some (.string o.x.name)/\u.cell? ⟨w.1.size,3,none⟩=some (.int .i64 o.x.ino)/\u.cell? ⟨w.1.size,4,none⟩=some (.int .i64 o.x.kind))
     (first|assumption|exact f _ A|exact f _ (A.trans (by assumption)))
     (first
      |(go_at_call 21;refine (K _).out.mono ?_;rintro e J ⟨rfl,b5⟩)
      |fail)
    have I:Below B.1.size B J:=A.trans b5;obtain⟨-,-,m2,m3,m4⟩:=f _ I;have Q:=HI (qsl (T k).1 (T k).2.1 (T k).2.2 o.x J hx);clear f K W Y n0 n1 n2 n3 n4 M hp hr;go_wp2_with fail
    refine Q.out.mono ?_;rintro e w6 ⟨rfl,b6⟩;have B6:=I.trans (b6.mono I.size);have hS:=HI (qic (h1.below B6).blk G 1 (by omega) (T k).1 (T k).2.1 (T k).2.2);clear Q;go_wp2_with fail
    refine hS.out.mono ?_;rintro e w7 ⟨rfl,I7,X7⟩;clear hS;go_wp2_with fail
    go_ret;exact q53 h1 hb b1 B6 I7 X7
   |true=>
    have A:Below B.1.size B B.drew:=(AI _ _).drew;have R:=q9y (h1.Jv.Ze.rows k G) o.x.name;have a2:(T k).2.1<=1000:=by
     rw[h1.lens k G];exact h1.short hl G
    rcases q1u o.x.name (L k) with⟨f1,f2,f3⟩|⟨y,hy,f1,f2,f3⟩
    ·rw[f1] at R;have K:=HI ((h1.below A).Jv.swap hb (by omega) G o.x hx none f1);have f:∀u:WD,Below B.1.size B u->u.cell? ⟨q,0,none⟩=some (.pointer (some ⟨p,0,none⟩))/\u.cell? ⟨q,1,none⟩=some (.int .i64 root)/\u.cell? ⟨w.1.size,2,none⟩=some (.string o.x.name)/\u.cell? ⟨w.1.size,3,none⟩=some (.int .i64 o.x.ino)/\u.cell? ⟨w.1.size,4,none⟩=some (.int .i64 o.x.kind):=λu O=>by
      have Z:=h1.blk.below O h1.blk.lt;have hn:=N1.below O N1.lt;exact⟨Z.cell 0 rfl,Z.cell 1 rfl,hn.cell 2 rfl,hn.cell 3 rfl,hn.cell 4 rfl⟩
     go_wp2_with fail
     have hw:IntKind.i64.wrap ((k:Int)+1)=(k:Int)+1:=IntWalk.i64_in _ (by omega);go_region_held3 (λu=>u.cell? ⟨q,0,none⟩=some (.pointer (some ⟨p,0,none⟩))/\u.cell? ⟨q,1,none⟩=some (.int .i64 root)/\u.cell? ⟨w.1.size,2,none⟩=some (.string o.x.name)/\u.cell? ⟨w.1.size,3,none⟩=some (.int .i64 o.x.ino)/\u.cell? ⟨w.1.size,4,none⟩=some (.int .i64 o.x.kind))
      (first|assumption|exact f _ A|exact f _ (A.trans (by assumption)))
      (first
       |(go_at_call 21;refine K.out.mono ?_;rintro e J ⟨a1,-⟩;obtain⟨rfl,b5⟩:=a1 rfl)
       |fail)
     have I:Below B.1.size B J:=A.trans b5;obtain⟨-,-,m2,m3,m4⟩:=f _ I;have Q:=HI (qwu (T k).1 (T k).2.1 (T k).2.2 (J5 (L k)) o.x J ((h1.row k G).below I) hx R);clear f K W Y n0 n1 n2 n3 n4 M hp hr;go_wp2_with fail
     refine Q.out.mono ?_;rintro e w6 ⟨rfl,b6⟩;have B6:=I.trans (b6.mono I.size);have hS:=HI (qic (h1.below B6).blk G 10 (by omega) (T k).1 (T k).2.1 (T k).2.2);clear Q;go_wp2_with fail
     refine hS.out.mono ?_;rintro e w7 ⟨rfl,I7,X7⟩;clear hS;go_wp2_with fail
     go_ret;exact q53 h1 hb b1 B6 I7 X7
    ·rw[f1] at R;have K:=HI ((h1.below A).Jv.swap hb (by omega) G o.x hx (some y) f1);have f:∀u:WD,Turn V B.drew u->u.cell? ⟨q,0,none⟩=some (.pointer (some ⟨p,0,none⟩))/\u.cell? ⟨q,1,none⟩=some (.int .i64 root)/\u.cell? ⟨w.1.size,2,none⟩=some (.string o.x.name)/\u.cell? ⟨w.1.size,3,none⟩=some (.int .i64 o.x.ino)/\u.cell? ⟨w.1.size,4,none⟩=some (.int .i64 o.x.kind):=λu O=>by
      have Z:=h1.blk.keep (O.block q h1.blk.lt λhV=>h1.Gv (h1.sub q hV));have hn:=N1.keep (O.block w.1.size N1.lt λhV=>by have:=(hE.out _ (h1.sub _ hV)).2;omega);exact⟨Z.cell 0 rfl,Z.cell 1 rfl,hn.cell 2 rfl,hn.cell 3 rfl,hn.cell 4 rfl⟩
     go_wp2_with fail
     have hw:IntKind.i64.wrap ((k:Int)+1)=(k:Int)+1:=IntWalk.i64_in _ (by omega);go_region_held3 (λu=>u.cell? ⟨q,0,none⟩=some (.pointer (some ⟨p,0,none⟩))/\u.cell? ⟨q,1,none⟩=some (.int .i64 root)/\u.cell? ⟨w.1.size,2,none⟩=some (.string o.x.name)/\u.cell? ⟨w.1.size,3,none⟩=some (.int .i64 o.x.ino)/\u.cell? ⟨w.1.size,4,none⟩=some (.int .i64 o.x.kind))
      (first|assumption|exact f _ (Turn.refl _ _)|exact f _ X5)
      (first
       |(go_at_call 21;refine K.out.mono ?_;rintro e J ⟨-,a1⟩;obtain⟨r5,P5,rfl,h5,a8,X5⟩:=a1 (λhh=>by cases hh))
       |fail)
     obtain⟨-,-,m2,m3,m4⟩:=f _ X5;have XX:=(Qz A (S:=V)).trans X5 λ_ h=>.inl h
     have a6:=h1.stay G XX (AI _ _) (Turn.refl _ J);have Q:=HI (qsp (T k).1 (T k).2.1 (T k).2.2 (J5 (L k)) o.x y.2 J a6 a2 hx R);clear f K W Y n0 n1 n2 n3 n4 M hp hr;go_wp2_with fail
     refine Q.out.mono ?_;rintro e w6 ⟨A6,c6,rfl,H⟩;clear Q;have I6:IB w6 q (Uf p root T):=(h1.blk.keep (XX.block q h1.blk.lt λhV=>h1.Gv (h1.sub q hV))).below H.below (by have:=h1.blk.lt;have:=X5.size;have:=A.size;omega);have hS:=HI (qtn I6 G r5 A6 (T k).2.1 c6 rfl (qid a8 G h1.lens (by rw[<-H.row.len];rw[<-qmg];exact q2u _)));go_wp2_with fail
     refine hS.out.mono ?_;rintro e w7 ⟨rfl,I7,X7⟩;clear hS;go_wp2_with fail
     go_ret;have hP:=h1.step hb h5 XX (λj hj=>q3c _ hj) H.below (by rw[q52,qmg];exact H.row) H.blk I7 X7;exact qbq hP hE.out h1.sub b1 XX H.below X7
 ·as_aux_lemma=>
   rw[hz];have A:Below B.1.size B B.drew:=(AI _ _).drew;have R:=q9y (h1.Jv.Ze.rows k G) o.x.name;obtain⟨F,hF⟩:∃F,J7 o.x.name (L k)=F:=⟨_,rfl⟩;rw[hF] at R;have K:=λ(u:WD) (O:Below B.1.size B u)=>(h1.below O).Jv.look (by omega) G o.x.name F hF
   have Q:=λ(u:WD) (O:Below B.1.size B u)=>q4z (T k).1 (T k).2.1 (T k).2.2 (J5 (L k)) o.x.name u ((h1.row k G).below O) (F.map (·.2)) R
   rw[(qz2 F).1,(qz2 F).2] at Q;obtain⟨E,b2⟩:∃E,kE F=E:=⟨_,rfl⟩;obtain⟨C,hC⟩:∃C,kC F=C:=⟨_,rfl⟩;rw[b2,hC] at K Q;replace K:=HI K;replace Q:=HI Q;have c8:=qes .eql (.inl rfl);have c9:=qyu;clear hF R b2 hC;have f:∀u:WD,Below B.1.size B u->u.cell? ⟨q,0,none⟩=some (.pointer (some ⟨p,0,none⟩))/\u.cell? ⟨q,1,none⟩=some (.int .i64 root)/\u.cell? ⟨w.1.size,2,none⟩=some (.string o.x.name):=λu O=>by
    have Z:=h1.blk.below O h1.blk.lt;have hn:=N1.below O N1.lt;exact⟨Z.cell 0 rfl,Z.cell 1 rfl,hn.cell 2 rfl⟩
   go_wp2_with fail
   have hw:IntKind.i64.wrap ((k:Int)+1)=(k:Int)+1:=IntWalk.i64_in _ (by omega);have a7:Below B.1.size B (B.alloc (.cells #[.string ⟨#[]⟩,.int .i64 0,.int .i64 0] 32)).drew:=Below.drew Qi;have c7:B.1.size<=(B.alloc (.cells #[.string ⟨#[]⟩,.int .i64 0,.int .i64 0] 32)).drew.1.size:=a7.size;have Iz:IB (B.alloc (.cells #[.string ⟨#[]⟩,.int .i64 0,.int .i64 0] 32)).drew B.1.size [.string ⟨#[]⟩,.int .i64 0,.int .i64 0]:=IB.new B _ _;go_region_held3 (λu=>u.cell? ⟨q,0,none⟩=some (.pointer (some ⟨p,0,none⟩))/\u.cell? ⟨q,1,none⟩=some (.int .i64 root)/\u.cell? ⟨w.1.size,2,none⟩=some (.string o.x.name))
    (first|with_reducible assumption|with_reducible exact f _ A|with_reducible exact f _ a7|with_reducible exact f _ I|with_reducible exact f _ (I.trans (Qi.mono I.size))|with_reducible exact f _ (I.trans (qdx (AE _) I.size _ _ _)))
    (first
     |(go_at_call 23;(with_reducible refine (K.out _ A).mono ?_);rintro e J ⟨rfl,b5⟩;have I:Below B.1.size B J:=A.trans b5)
     |(go_at_call 23;(with_reducible refine (K.out _ a7).mono ?_);rintro e J ⟨rfl,b5⟩;have I:Below B.1.size B J:=a7.trans (b5.mono c7);have I5:=Iz.below b5 Iz.lt;have y0:=I5.cell 0 rfl;have y1:=I5.cell 1 rfl;have y2:=I5.cell 2 rfl;have f0:=I5.fz 0;have f1:=I5.fz 1;have f2:=I5.fz 2)
     |fail)
   all_goals (
    first
    |(have B6:Below B.1.size B (((J.setCell ⟨B.1.size,0,none⟩ (.string E.name)).setCell ⟨B.1.size,1,none⟩ (.int .i64 E.ino)).setCell ⟨B.1.size,2,none⟩ (.int .i64 E.kind)):=I.trans (qdx (AE _) I.size _ _ _)
      have X6:IB (((J.setCell ⟨B.1.size,0,none⟩ (.string E.name)).setCell ⟨B.1.size,1,none⟩ (.int .i64 E.ino)).setCell ⟨B.1.size,2,none⟩ (.int .i64 E.kind)) B.1.size [.string E.name,.int .i64 E.ino,.int .i64 E.kind]:=((I5.set 0 (.string E.name)).set 1 (.int .i64 E.ino)).set 2 (.int .i64 E.kind);generalize ((J.setCell ⟨B.1.size,0,none⟩ (.string E.name)).setCell ⟨B.1.size,1,none⟩ (.int .i64 E.ino)).setCell ⟨B.1.size,2,none⟩ (.int .i64 E.kind)=w6 at B6 X6 ⊢;clear y0 y1 y2 f0 f1 f2 I5)
    |(have B6:Below B.1.size B (J.alloc (.cells #[.string E.name,.int .i64 E.ino,.int .i64 E.kind] 32)):=I.trans (Qi.mono I.size)
      have X6:IB (J.alloc (.cells #[.string E.name,.int .i64 E.ino,.int .i64 E.kind] 32)) J.1.size [.string E.name,.int .i64 E.ino,.int .i64 E.kind]:=IB.new _ _ _;generalize J.alloc (.cells #[.string E.name,.int .i64 E.ino,.int .i64 E.kind] 32)=w6 at B6 X6 ⊢)
    obtain⟨-,-,m2⟩:=f _ B6;clear f K W Y n0 n1 n2 n3 n4 M hp hr;go_wp2_with fail
    refine (Q.out _ B6).mono ?_;rintro e w7 ⟨rfl,b7⟩;have B7:=B6.trans (b7.mono B6.size);have X7:=X6.below b7 X6.lt;have X8:=X7.below (Qi (o:=.cells #[.string E.name,.int .i64 E.ino,.int .i64 E.kind] 32)) X7.lt;have x0:=X8.cell 0 rfl;have x1:=X8.cell 1 rfl;have x2:=X8.cell 2 rfl;clear Q m2;go_wp2_with fail
    go_ret;exact qie h1 b1 (B7.trans (Qi.mono B7.size)))
 ·as_aux_lemma=>
   rw[hz];have A:Below B.1.size B B.drew:=(AI _ _).drew;have a2:(T k).2.1<=1000:=by
    rw[h1.lens k G];exact h1.short hl G
   have K:=HI ((h1.below A).Jv.list (by omega) G);have Q:=HI (λ(u:WD) (O:Below B.1.size B u)=>qhr (T k).1 (T k).2.1 (T k).2.2 (J5 (L k)) u ((h1.row k G).below O) a2);have f:∀u:WD,Below B.1.size B u->u.cell? ⟨q,0,none⟩=some (.pointer (some ⟨p,0,none⟩))/\u.cell? ⟨q,1,none⟩=some (.int .i64 root):=λu O=>by
    have Z:=h1.blk.below O h1.blk.lt;exact⟨Z.cell 0 rfl,Z.cell 1 rfl⟩
   go_wp2_with fail
   have hw:IntKind.i64.wrap ((k:Int)+1)=(k:Int)+1:=IntWalk.i64_in _ (by omega);go_region_held3 (λu=>u.cell? ⟨q,0,none⟩=some (.pointer (some ⟨p,0,none⟩))/\u.cell? ⟨q,1,none⟩=some (.int .i64 root))
    (first|assumption|exact f _ A|exact f _ (A.trans (by assumption)))
    (first
     |(go_at_call 8;refine K.out.mono ?_;rintro e J ⟨A5,n5,c5,rfl,b3,b5⟩)
     |fail)
   have I:Below B.1.size B J:=A.trans b5;clear f K W Y n0 n1 n2 n3 n4 M hp hr;go_wp2_with fail
   refine (Q.out _ I).mono ?_;rintro e w6 ⟨A6,n6,c6,rfl,b4,b6⟩;have B6:=I.trans (b6.mono I.size);have hC:=HI (qhp A5 A6 n5 c5 n6 c6 _ w6 (b3.below b6) b4);clear Q;go_wp2_with fail
   refine hC.out.mono ?_;rintro e w7 ⟨rfl,b7⟩;clear hC;go_wp2_with fail
   go_ret;exact qie h1 b1 (B6.trans (b7.mono B6.size))
 ·as_aux_lemma=>
   rw[hz];have K:=HI (h1.Jv.commit hb (by omega) (by omega));clear W Y n0 n1 n2 n3 n4 M hr;go_wp2_with fail
   refine K.out.mono ?_;rintro e J ⟨rfl,h5,X5⟩;clear K;go_wp2_with fail
   go_ret;have X:=(Qz b1 (S:=λk=>k=q\/U k)).trans X5 λ_ h=>.inl (.inr h)
   exact⟨rfl,_,_,_,root,L,T,(h1.commit h5 X5).wider (by omega),X,λi hi=>⟨hi.1.imp id λh=>by have:=b1.size;omega,hi.2⟩⟩
def Qae (e b:Nat)(f:WD)(q d p n:Nat)(V:NP)(iv:Value)(wr:WD):Prop:=
 ∃(j:Nat) (U:NP) (D:DM) (P:Pl) (r:Int) (L:Nat->List De) (T:Nat->Rw),j<=n/\j<=80/\iv=.int .i64 (j:Int)/\Yb b wr q d p U V D P r L T j (100+2100*j) (2+(j:Int))/\Below e f wr/\∀k,U k->e<=k
theorem qkw {b:Nat}{e u:WD}{d p:Nat}{U:NP}{D:DM}(E:Ed b e d p U D (Pl.fresh 512) [] 100 2)(y:Below e.1.size e u)(B:IB u e.1.size (Uf p 0 λ_=>(none,0,0)))(G:e.1.size<u.1.size):Yb b u e.1.size d p U U D (Pl.fresh 512) 0 (λ_=>[]) (λ_=>(none,0,0)) 0 100 2:=by
 have f:=E.low;refine⟨⟨(qxe E).below y,(Ed.Qcz E).more y λk A=>.inr ⟨Nat.le_of_eq A.symm,by rw[A];exact G⟩⟩,B,λj _=>qvv _,λj _ h0=>absurd rfl h0,λF=>by have:=(f _ F).2;omega,λ_ h=>h⟩
end
