/- The reference's directories: Same, List -/
import Derived.Test.YtnjacafcocnicaaGreatDoorDv32
namespace Go.Proofs.YtnjacafcocnicaaGreatDoor
open Go Go.RowKit Go.Proofs Tryz
set_option maxHeartbeats 8000000
set_option maxRecDepth 10000
theorem qhp (A B:OA)(n c m G:Nat)(l:List Qm)(w:WD)(h:Zg w A n c l)(D:Zg w B m G l) :
  Calls prog 9 #[.slice A n c,.slice B m G] w λe w'=>e=.returned (.bool true)/\Below w.1.size w w':=by
 have X:=h.len;have O:=D.len;obtain rfl:m=n:=by omega
 obtain⟨H,F⟩:=h.bounds;obtain⟨E,_⟩:=D.bounds;unfold maxLen at F;have M:=qes .neq (.inr rfl);have P:=qyv;go_enter func9,ntmps9
 go_wp2_with fail
 go_loopw [5] (λs wr=>∃j:Nat,j<=m/\s=.int .i64 (j:Int)/\Below w.1.size w wr) (λs _=>m-(intOf s).toNat)
 case atStart=>exact⟨0,AW _,rfl,AI _ _⟩
 case round=>
  obtain⟨j,W,rfl,p⟩:=hrel;by_cases q:j<m
  ·obtain⟨g,o,rfl,V,u⟩:=(h.below p).at_ q;obtain⟨U,Y,rfl,K,f⟩:=(D.below p).at_ q;obtain⟨x,y⟩:∃x,Zm l j=x:=⟨_,rfl⟩;rw[y] at u f;have Q:=u 0 _ rfl;have Z:=u 1 _ rfl;have x2:=u 2 _ rfl;have R:=f 0 _ rfl;have y1:=f 1 _ rfl;have y2:=f 2 _ rfl;rw[Nat.add_zero] at Q R;have T:(0:Int)<=(j:Int):=by omega
   have J:(j:Int)<(m:Int):=by omega
   clear u f y;go_wp2_with fail
   go_quiet (fail)
   have I:=Nb p;go_wp2_with fail
   exact⟨⟨j+1,by omega,by go_num,(by first|exact I _|exact p|exact p.drew)⟩,by simp[intOf];omega⟩
  ·obtain rfl:j=m:=by omega
   have J:¬(j:Int)<(j:Int):=by omega
   go_wp2_with fail
   go_ret;exact⟨rfl,p⟩
theorem qhq {l:List Qm}{j:Nat}(h:j<l.length):l.take (j+1)=l.take j++[Zm l j]:=by
 rw[List.take_add_one,q1y h];rfl
theorem qoy {n:ByteArray}{l:List Qm}{k:Nat}(e:k<l.length)(h:k<=Zt n l):Jr (Zm l k).name n=true↔k+1<=Zt n l:=by
 rw[qet e];constructor
 ·intro hn;rcases Nat.lt_or_ge k (Zt n l) with h1|h1
  ·exact h1
  ·obtain rfl:k=Zt n l:=by omega
   rw[qf8 e] at hn
   cases hn
 ·intro h1;exact qf7 h1 e
theorem qAj (x:Qm)(l:List Qm)(k:Nat)(h:Zt x.name l=k):Au x l=(l.take k++[x])++l.drop k:=by
 unfold Au;rw[h,AM];rfl
theorem qhr (A:OA)(n c:Nat)(l:List Qm)(w:WD)(h:Zg w A n c l)(g6:n<=1000) :
  Calls prog 10 #[.slice A n c] w λe w'=>∃A' n' c',e=.returned (.slice A' n' c')/\Zg w' A' n' c' (Yv l)/\Below w.1.size w w':=by
 have O1:Jz (w.alloc (.cells #[] 32)) w.1.size (some ⟨w.1.size,0,none⟩) 0 0 []:=q1g w;have b1:Below w.1.size w (w.alloc (.cells #[] 32)):=Qi;have hl:=h.len;obtain⟨g0,f3⟩:=h.bounds;unfold maxLen at f3;go_enter func10,ntmps10
 go_wp2_with fail
 go_loopw [3,4] (λv s wr=>∃(i:Nat) (B:OA) (d:Nat),i<=n/\s=.int .i64 (i:Int)/\v=.slice B i d/\Jz wr w.1.size B i d (Yv (l.take i))/\Below w.1.size w wr) (λ_ s _=>n-(intOf s).toNat)
 case atStart=>exact⟨0,_,0,AW _,rfl,rfl,O1,b1⟩
 case round=>
  clear O1 b1;obtain⟨i,B,d,hi,rfl,rfl,O,BB⟩:=hrel;by_cases f2:i<n
  ·have m:Yv (l.take (i+1))=Au (Zm l i) (Yv (l.take i)):=by rw[qhq (by omega),q8g]
   obtain⟨o,ho⟩:∃o,Yv (l.take i)=o:=⟨_,rfl⟩;obtain⟨x,hx⟩:∃x,Zm l i=x:=⟨_,rfl⟩;rw[ho] at O m;rw[hx] at m;have g8:=O.ents.len;obtain⟨H,f0⟩:∃k,Zt x.name o=k:=⟨_,rfl⟩;have g5:H<=i:=by have:=qsm x.name o;omega
   rw[qAj x o H f0] at m;replace m:=HI m;replace ho:=HI ho;have e0:(0:Int)<=(i:Int):=by omega
   have e1:(i:Int)<(n:Int):=by omega
   obtain⟨g7,f4⟩:=O.ents.bounds;unfold maxLen at f4;go_wp2_with fail
   go_loopw [5] (λs wq=>∃k:Nat,k<=H/\s=.int .i64 (k:Int)/\Below wr.1.size wr wq) (λs _=>H+1-(intOf s).toNat)
   case atStart=>exact⟨0,AW _,rfl,AI _ _⟩
   case round=>
    obtain⟨k,F,rfl,bq⟩:=hrel;have hX:=(h.below (BB.trans (bq.mono BB.size))).at_ f2;obtain⟨G,oa,hA,e6,a7⟩:=hX;rw[hx] at a7;have a0:=a7 0 _ rfl;have a1:=a7 1 _ rfl;have a2:=a7 2 _ rfl;rw[Nat.add_zero] at a0;subst hA;have e2:(0:Int)<=(k:Int):=by omega
    by_cases e7:k<i
    ·obtain⟨gb,ob,hB,g4,d8⟩:=(O.ents.below bq).at_ e7;subst hB;have K:=qoy (n:=x.name) (l:=o) (k:=k) (by omega) (by omega);obtain⟨y,hy⟩:∃y,Zm o k=y:=⟨_,rfl⟩;rw[hy] at d8 K;have c0:=d8 0 _ rfl;rw[Nat.add_zero] at c0;have e3:(k:Int)<(i:Int):=by omega
     clear a7 d8 hy;by_cases c8:k<H
     ·have hq:Op.bytesLess y.name.toList x.name.toList=true:=K.2 (by omega);have f1:∀u:WD,(binOp .lss 9 (.string y.name) (.string x.name)).run prog u=.ok (.bool true) u:=λu=>by simp[binOp,Op.stringOp,hq]
      replace K:=HI K;go_wp2_with fail
      go_quiet (fail)
      have bD:=Nb bq;go_wp2_with fail
      exact⟨⟨k+1,by omega,by go_num,(by first|exact bD _|exact bq|exact bq.drew)⟩,by simp[intOf];omega⟩
     ·obtain rfl:k=H:=by omega
      have hq:Op.bytesLess y.name.toList x.name.toList=false:=by
       cases hc:Op.bytesLess y.name.toList x.name.toList with
       |false=>rfl
       |true=>have:=K.1 hc;omega
      have f1:∀u:WD,(binOp .lss 9 (.string y.name) (.string x.name)).run prog u=.ok (.bool false) u:=λu=>by simp[binOp,Op.stringOp,hq]
      replace K:=HI K;go_wp2_with fail
      go_quiet (fail)
      have b2:(World.drewN _ nq).cell? ⟨G,oa+i*3,none⟩=some (.string x.name):=a0;have b3:(World.drewN _ nq).cell? ⟨G,oa+i*3+1,none⟩=some (.int .i64 x.ino):=a1;have b4:(World.drewN _ nq).cell? ⟨G,oa+i*3+2,none⟩=some (.int .i64 x.kind):=a2;have J:G<(World.drewN _ nq).1.size:=e6;have bE:=Nb bq nq;generalize World.drewN _ nq=Q at bE b2 b3 b4 J ⊢;have BD:=BB.trans (bE.mono BB.size);have OD:=O.below bE;have f9:=bE.size;have b5:Below Q.1.size Q (Q.alloc (.cells #[] 32)):=Qi;have Ol:Jz (Q.alloc (.cells #[] 32)) Q.1.size (some ⟨Q.1.size,0,none⟩) 0 0 []:=q1g Q;have d6:Zg (Q.alloc (.cells #[] 32)) (some ⟨gb,ob+k*3,none⟩) (i-k) (d-k) (o.drop k):=by
       have h1:=(OD.ents.below b5).drop (k:=k) (by omega);rwa [AB (show ¬d=k by omega),Option.map_some,Addr.add_mid] at h1
      have g3:¬d=k:=by omega
      have e8:(k:Int)<=(d:Int):=by omega
      have g1:(k:Int)<=(i:Int):=by omega
      go_wp2_with (first
       |(at_builtin;refine q36 rfl (.tmp 33) (.tmp 36) rfl rfl Ol _ (i-k) (d-k) _ rfl d6 (by omega) b5.size ?_;intro A5 c5 f O5 X5 e9;rw[AT,BG] at O5;rw[AT];have D:Below Q.1.size Q f:=b5.trans (X5.below (λg hg=>(Ol.Qa g hg).1) b5.size);have m0:=(D.cell (p:=⟨G,_,none⟩) J).trans b2;have m1:=(D.cell (p:=⟨G,_,none⟩) J).trans b3;have m2:=(D.cell (p:=⟨G,_,none⟩) J).trans b4;have U:G<f.1.size:=Nat.lt_of_lt_of_le J D.size)
       |fail)
      have I:Below f.1.size f f.drew:=(AI _ _).drew;have ba:Below f.1.size f (f.drew.alloc (.cells #[] 32)):=I.alloc I.size _;have bb:Below f.1.size f ((f.drew.alloc (.cells #[] 32)).alloc (.cells #[.string x.name,.int .i64 x.ino,.int .i64 x.kind] 32)):=ba.alloc ba.size _;have b6:Below (f.drew.alloc (.cells #[] 32)).1.size (f.drew.alloc (.cells #[] 32)) ((f.drew.alloc (.cells #[] 32)).alloc (.cells #[.string x.name,.int .i64 x.ino,.int .i64 x.kind] 32)):=Qi;have Z:Below f.1.size f (f.drew.alloc (.cells #[.string x.name,.int .i64 x.ino,.int .i64 x.kind] 32)):=I.alloc I.size _;have bc:Below f.1.size f ((f.drew.alloc (.cells #[.string x.name,.int .i64 x.ino,.int .i64 x.kind] 32)).alloc (.cells #[] 32)):=Z.alloc Z.size _;have b7:Below (f.drew.alloc (.cells #[.string x.name,.int .i64 x.ino,.int .i64 x.kind] 32)).1.size (f.drew.alloc (.cells #[.string x.name,.int .i64 x.ino,.int .i64 x.kind] 32)) ((f.drew.alloc (.cells #[.string x.name,.int .i64 x.ino,.int .i64 x.kind] 32)).alloc (.cells #[] 32)):=Qi;have M:∀u,Below f.1.size f u->Zg u (some ⟨gb,ob,none⟩) k d (o.take k):=λu hu=>((OD.below D).ents.below hu).take (by omega)
      have La:=M _ ba;have Lb:=M _ bb;have Lc:=M _ bc;have Oa:Jz (f.drew.alloc (.cells #[] 32)) f.1.size (some ⟨f.1.size,0,none⟩) 0 0 []:=q1g f.drew;have Ob:=Oa.below b6;have Eb:Zg ((f.drew.alloc (.cells #[] 32)).alloc (.cells #[.string x.name,.int .i64 x.ino,.int .i64 x.kind] 32)) (some ⟨f.1.size+1,0,none⟩) 1 1 [x]:=by
       have:=q1z (f.drew.alloc (.cells #[] 32)) x;rwa [show (f.drew.alloc (.cells #[] 32)).1.size=f.1.size+1 by simp] at this
      have Oc:Jz ((f.drew.alloc (.cells #[.string x.name,.int .i64 x.ino,.int .i64 x.kind] 32)).alloc (.cells #[] 32)) f.1.size (some ⟨f.1.size+1,0,none⟩) 0 0 []:=by
       have:=q1g (f.drew.alloc (.cells #[.string x.name,.int .i64 x.ino,.int .i64 x.kind] 32));rw[show (f.drew.alloc (.cells #[.string x.name,.int .i64 x.ino,.int .i64 x.kind] 32)).1.size=f.1.size+1 by simp] at this;exact this.less (by omega)
      have Ec:Zg ((f.drew.alloc (.cells #[.string x.name,.int .i64 x.ino,.int .i64 x.kind] 32)).alloc (.cells #[] 32)) (some ⟨f.1.size,0,none⟩) 1 1 [x]:=(q1z f.drew x).below b7;have B5:Below w.1.size w f:=BD.trans (D.mono BD.size);have d9:=B5.size;clear b6 b7 Z I;go_region_law (first
       |(rw[AA (by rfl)];refine Na (.tmp 38) (.tmp 41) (by rfl) (by rfl) Oa _ k d _ (by rfl) La (by omega) ba.size ?_;intro A9 c9 P R Y c6;rw[AT,BG] at R;rw[AT];have E:Below f.1.size f P:=ba.trans (Y.below (λk F=>(Oa.Qa k F).1) ba.size);have l9:G<P.1.size:=Nat.lt_of_lt_of_le U E.size;have n0:=(E.cell (p:=⟨G,_,none⟩) U).trans m0;have n1:=(E.cell (p:=⟨G,_,none⟩) U).trans m1;have n2:=(E.cell (p:=⟨G,_,none⟩) U).trans m2)
       |(rw[AA (by rfl)];refine Na (.tmp 38) (.tmp 41) (by rfl) (by rfl) Ob _ k d _ (by rfl) Lb (by omega) bb.size ?_;intro A9 c9 P R Y c6;rw[AT,BG] at R;rw[AT];have E:Below f.1.size f P:=bb.trans (Y.below (λk F=>(Ob.Qa k F).1) bb.size);have E9:=Eb.turned Y (λg hg h=>by have h1:f.1.size+1=g:=OI hg;have h2:f.1.size=g:=OI h;omega))
       |(rw[AA (by rfl)];refine Na (.tmp 38) (.tmp 41) (by rfl) (by rfl) Oc _ k d _ (by rfl) Lc (by omega) bc.size ?_;intro A9 c9 P R Y c6;rw[AT,BG] at R;rw[AT];have E:Below f.1.size f P:=bc.trans (Y.below (λk F=>(Oc.Qa k F).1) bc.size);have E9:=Ec.turned Y (λg hg h=>by have h1:f.1.size=g:=OI hg;have h2:f.1.size+1=g:=OI h;omega))
       |(rw[AA (by rfl)];refine Na (.tmp 42) (.tmp 47) (by rfl) (by rfl) R _ 1 1 [x] (by rfl) E9 (by omega) E.size ?_;intro d0 d4 a6 V W b8;have q:Below f.1.size f a6:=E.trans (W.below (λk F=>(R.Qa k F).1) E.size);have b0:=O5.ents.below q)
       |(rw[AA (by rfl)];have T:Below P.1.size P (P.alloc (.cells #[.string x.name,.int .i64 x.ino,.int .i64 x.kind] 32)):=Qi;refine Na (.tmp 42) (.tmp 47) (by rfl) (by rfl) (R.below T) _ 1 1 [x] (by rfl) (q1z P x) (by omega) (AZ E.size T.size) ?_;intro d0 d4 a6 V W b8;have q:Below f.1.size f a6:=(E.trans (T.mono E.size)).trans (W.below (λk F=>(R.Qa k F).1) (AZ E.size T.size));have b0:=O5.ents.below q)
       |(rw[AA (by rfl)];refine Na (.tmp 48) (.tmp 49) (by rfl) (by rfl) V _ (i-k) c5 _ (by rfl) b0 (by omega) q.size ?_;intro d1 d5 e4 a8 d2 e5;have d3:Below f.1.size f e4:=q.trans (d2.below (λk F=>(V.Qa k F).1) q.size);rw[show k+1+(i-k)=i+1 by omega] at a8;rw[show k+1+(i-k)=i+1 by omega])
       |fail)
      all_goals (
       go_wp2_with fail
       refine⟨⟨i+1,d1,d5,by omega,by go_num,rfl,?_,B5.trans (d3.mono d9)⟩,by simp[intOf];omega⟩;rw[m.out];exact a8.less (by omega))
    ·have c7:k=i:=by omega
     have c8:H=i:=by omega
     subst c8;rw[c7];have e3:¬(H:Int)<(H:Int):=by omega
     clear a7 c7 e7 e2 F;go_wp2_with fail
     go_quiet (fail)
     have b2:(World.drewN _ nq).cell? ⟨G,oa+H*3,none⟩=some (.string x.name):=a0;have b3:(World.drewN _ nq).cell? ⟨G,oa+H*3+1,none⟩=some (.int .i64 x.ino):=a1;have b4:(World.drewN _ nq).cell? ⟨G,oa+H*3+2,none⟩=some (.int .i64 x.kind):=a2;have J:G<(World.drewN _ nq).1.size:=e6;have bE:=Nb bq nq;generalize World.drewN _ nq=Q at bE b2 b3 b4 J ⊢;have BD:=BB.trans (bE.mono BB.size);have OD:=O.below bE;have f9:=bE.size;have b5:Below Q.1.size Q (Q.alloc (.cells #[] 32)):=Qi;have Ol:Jz (Q.alloc (.cells #[] 32)) Q.1.size (some ⟨Q.1.size,0,none⟩) 0 0 []:=q1g Q;have d6:∀X:OA,Zg (Q.alloc (.cells #[] 32)) X 0 (d-H) []:=λX=>⟨rfl,AW _,by unfold maxLen;omega,λj x hj=>by simp at hj⟩
     have d7:o.drop H=[]:=List.drop_of_length_le (by omega);have e8:(H:Int)<=(d:Int):=by omega
     obtain⟨B2,g2⟩:∃B2,(if d=H then B else Option.map (λx=>x.add (H*3)) B)=B2:=⟨_,rfl⟩;go_wp2_with (first
      |(at_builtin;refine q36 rfl (.tmp 33) (.tmp 36) rfl rfl Ol _ 0 (d-H) [] rfl (d6 _) (by omega) b5.size ?_;intro A5 c5 f O5 X5 e9;rw[AT,BG] at O5;rw[AT];have D:Below Q.1.size Q f:=b5.trans (X5.below (λg hg=>(Ol.Qa g hg).1) b5.size);have m0:=(D.cell (p:=⟨G,_,none⟩) J).trans b2;have m1:=(D.cell (p:=⟨G,_,none⟩) J).trans b3;have m2:=(D.cell (p:=⟨G,_,none⟩) J).trans b4;have U:G<f.1.size:=Nat.lt_of_lt_of_le J D.size)
      |fail)
     have I:Below f.1.size f f.drew:=(AI _ _).drew;have ba:Below f.1.size f (f.drew.alloc (.cells #[] 32)):=I.alloc I.size _;have bb:Below f.1.size f ((f.drew.alloc (.cells #[] 32)).alloc (.cells #[.string x.name,.int .i64 x.ino,.int .i64 x.kind] 32)):=ba.alloc ba.size _;have b6:Below (f.drew.alloc (.cells #[] 32)).1.size (f.drew.alloc (.cells #[] 32)) ((f.drew.alloc (.cells #[] 32)).alloc (.cells #[.string x.name,.int .i64 x.ino,.int .i64 x.kind] 32)):=Qi;have Z:Below f.1.size f (f.drew.alloc (.cells #[.string x.name,.int .i64 x.ino,.int .i64 x.kind] 32)):=I.alloc I.size _;have bc:Below f.1.size f ((f.drew.alloc (.cells #[.string x.name,.int .i64 x.ino,.int .i64 x.kind] 32)).alloc (.cells #[] 32)):=Z.alloc Z.size _;have b7:Below (f.drew.alloc (.cells #[.string x.name,.int .i64 x.ino,.int .i64 x.kind] 32)).1.size (f.drew.alloc (.cells #[.string x.name,.int .i64 x.ino,.int .i64 x.kind] 32)) ((f.drew.alloc (.cells #[.string x.name,.int .i64 x.ino,.int .i64 x.kind] 32)).alloc (.cells #[] 32)):=Qi;have M:∀u,Below f.1.size f u->Zg u B H d (o.take H):=λu hu=>((OD.below D).ents.below hu).take (by omega)
     have La:=M _ ba;have Lb:=M _ bb;have Lc:=M _ bc;have Oa:Jz (f.drew.alloc (.cells #[] 32)) f.1.size (some ⟨f.1.size,0,none⟩) 0 0 []:=q1g f.drew;have Ob:=Oa.below b6;have Eb:Zg ((f.drew.alloc (.cells #[] 32)).alloc (.cells #[.string x.name,.int .i64 x.ino,.int .i64 x.kind] 32)) (some ⟨f.1.size+1,0,none⟩) 1 1 [x]:=by
      have:=q1z (f.drew.alloc (.cells #[] 32)) x;rwa [show (f.drew.alloc (.cells #[] 32)).1.size=f.1.size+1 by simp] at this
     have Oc:Jz ((f.drew.alloc (.cells #[.string x.name,.int .i64 x.ino,.int .i64 x.kind] 32)).alloc (.cells #[] 32)) f.1.size (some ⟨f.1.size+1,0,none⟩) 0 0 []:=by
      have:=q1g (f.drew.alloc (.cells #[.string x.name,.int .i64 x.ino,.int .i64 x.kind] 32));rw[show (f.drew.alloc (.cells #[.string x.name,.int .i64 x.ino,.int .i64 x.kind] 32)).1.size=f.1.size+1 by simp] at this;exact this.less (by omega)
     have Ec:Zg ((f.drew.alloc (.cells #[.string x.name,.int .i64 x.ino,.int .i64 x.kind] 32)).alloc (.cells #[] 32)) (some ⟨f.1.size,0,none⟩) 1 1 [x]:=(q1z f.drew x).below b7;have B5:Below w.1.size w f:=BD.trans (D.mono BD.size);have d9:=B5.size;clear b6 b7 Z I;go_region_law (first
      |(rw[AA (by rfl)];refine Na (.tmp 38) (.tmp 41) (by rfl) (by rfl) Oa _ H d _ (by rfl) La (by omega) ba.size ?_;intro A9 c9 P R Y c6;rw[AT,BG] at R;rw[AT];have E:Below f.1.size f P:=ba.trans (Y.below (λk F=>(Oa.Qa k F).1) ba.size);have l9:G<P.1.size:=Nat.lt_of_lt_of_le U E.size;have n0:=(E.cell (p:=⟨G,_,none⟩) U).trans m0;have n1:=(E.cell (p:=⟨G,_,none⟩) U).trans m1;have n2:=(E.cell (p:=⟨G,_,none⟩) U).trans m2)
      |(rw[AA (by rfl)];refine Na (.tmp 38) (.tmp 41) (by rfl) (by rfl) Ob _ H d _ (by rfl) Lb (by omega) bb.size ?_;intro A9 c9 P R Y c6;rw[AT,BG] at R;rw[AT];have E:Below f.1.size f P:=bb.trans (Y.below (λk F=>(Ob.Qa k F).1) bb.size);have E9:=Eb.turned Y (λg hg h=>by have h1:f.1.size+1=g:=OI hg;have h2:f.1.size=g:=OI h;omega))
      |(rw[AA (by rfl)];refine Na (.tmp 38) (.tmp 41) (by rfl) (by rfl) Oc _ H d _ (by rfl) Lc (by omega) bc.size ?_;intro A9 c9 P R Y c6;rw[AT,BG] at R;rw[AT];have E:Below f.1.size f P:=bc.trans (Y.below (λk F=>(Oc.Qa k F).1) bc.size);have E9:=Ec.turned Y (λg hg h=>by have h1:f.1.size=g:=OI hg;have h2:f.1.size+1=g:=OI h;omega))
      |(rw[AA (by rfl)];refine Na (.tmp 42) (.tmp 47) (by rfl) (by rfl) R _ 1 1 [x] (by rfl) E9 (by omega) E.size ?_;intro d0 d4 a6 V W b8;have q:Below f.1.size f a6:=E.trans (W.below (λk F=>(R.Qa k F).1) E.size);have b0:=O5.ents.below q)
      |(rw[AA (by rfl)];have T:Below P.1.size P (P.alloc (.cells #[.string x.name,.int .i64 x.ino,.int .i64 x.kind] 32)):=Qi;refine Na (.tmp 42) (.tmp 47) (by rfl) (by rfl) (R.below T) _ 1 1 [x] (by rfl) (q1z P x) (by omega) (AZ E.size T.size) ?_;intro d0 d4 a6 V W b8;have q:Below f.1.size f a6:=(E.trans (T.mono E.size)).trans (W.below (λk F=>(R.Qa k F).1) (AZ E.size T.size));have b0:=O5.ents.below q)
      |(rw[AA (by rfl)];refine Na (.tmp 48) (.tmp 49) (by rfl) (by rfl) V _ 0 c5 _ (by rfl) b0 (by omega) q.size ?_;intro d1 d5 e4 a8 d2 e5;have d3:Below f.1.size f e4:=q.trans (d2.below (λk F=>(V.Qa k F).1) q.size);rw[Nat.add_zero] at a8;rw[Nat.add_zero])
      |fail)
     all_goals (
      go_wp2_with fail
      refine⟨⟨H+1,d1,d5,by omega,by go_num,rfl,?_,B5.trans (d3.mono d9)⟩,by simp[intOf];omega⟩;rw[m.out,d7];exact a8.less (by omega))
  ·obtain rfl:i=n:=by omega
   have e1:¬(i:Int)<(i:Int):=by omega
   rw[AN (by omega)] at O;go_wp2_with fail
   go_ret;exact⟨B,i,d,rfl,O.ents,BB⟩
section
variable {w w':WD}{base n c g o:Nat}{l:List Qm}
theorem Jz.there (h:Jz w base (some ⟨g,0,none⟩) n c l):w.there g 0 (n*3):=by
 have p:=h.ents;have F:=p.len;rcases h.1.2 with⟨m,_⟩|⟨D,cap,q,m,_,A,_⟩
 ·injection m with h1;cases h1
 injection m with h1;injection h1 with h1;injection h1 with h1;subst h1;intro t G;obtain⟨E,H,e,_,B⟩:=p.at_ (j:=t / 3) (by omega);injection e with e;injection e with u y;subst u y;have hi:t % 3<3:=by omega
 have f:(Zm l (t / 3)).vs.length=3:=rfl;have h2:=B (t % 3) _ (AC (by rw[f];exact hi));refine⟨?_,?_⟩
 ·rw[show 0+t=0+t / 3*3+t % 3 by omega,h2];rfl
 ·unfold World.frozen?;rw[A];simp
theorem Zg.Vo (h:Zg w (some ⟨g,o,none⟩) n c l)(ht:w.there g o (n*3)){j:Nat}(hj:j<n)(x:Qm):Zg (w.setCells g (o+j*3) x.vs) (some ⟨g,o,none⟩) n c (l.set j x):=by
 have u:=h.len;have A:w.there g (o+j*3) x.vs.length:=λi hi=>by
  have hi:i<3:=hi;have:=ht (j*3+i) (by omega);rwa [<-Nat.add_assoc] at this
 refine⟨by rw[AF,List.length_set];exact u,h.bounds.1,h.bounds.2,λi v f=>?_⟩;rw[BA] at f;have hi:i<n:=by
  by_cases h1:i<(l.set j x).length
  ·rw[List.length_set] at h1;omega
  ·rw[List.getElem?_eq_none (by omega)] at f;cases f
 obtain⟨B,H,e,F,y⟩:=h.at_ hi;injection e with e;injection e with p q;subst p q;have G:(w.setCells g (o+j*3) x.vs).1.size=w.1.size:=q2v g _ _ w;by_cases m:i=j
 ·subst m;rw[List.getElem?_set_self (by omega)] at f;obtain rfl:x.vs=v:=OI f;exact⟨g,o,rfl,by omega,rfl,World.rangeAt_setCells_same w g _ _ A⟩
 ·rw[List.getElem?_set_ne (λe=>m e.symm),q1y (by omega)] at f;obtain rfl:(Zm l i).vs=v:=OI f;refine⟨g,o,rfl,by omega,rfl,World.rangeAt_setCells_apart y g _ _ (.inr ?_)⟩;have D:(Zm l i).vs.length=3:=rfl;have E:x.vs.length=3:=rfl;omega
end
def Rk (x:Qm)(l:List Qm)(j:Nat):List Qm:=Y4 x (l.take j)++l.drop j
theorem qAk (x:Qm)(l:List Qm)(j:Nat):(Rk x l j).length=l.length:=by
 unfold Rk Y4;rw[AD,AF,AR,AS];omega
theorem qCd {x:Qm}{l:List Qm}{j:Nat}(h:j<l.length):Zm (Rk x l j) j=Zm l j:=by
 have h1:(Rk x l j)[j]?=l[j]?:=by
  unfold Rk Y4;rw[List.getElem?_append_right (by rw[AF,AR];omega),List.getElem?_drop,AF,AR];congr 1
  omega
 rw[q1y (by rw[qAk];exact h),q1y h] at h1;exact OI h1
theorem qws {x:Qm}{l:List Qm}{j:Nat}(h:j<l.length):Rk x l (j+1)=if eqS (Zm l j).name x.name=true then (Rk x l j).set j x else Rk x l j:=by
 have h1:Y4 x (l.take (j+1))=Y4 x (l.take j)++[if eqS (Zm l j).name x.name=true then x else Zm l j]:=by
  rw[qhq h];unfold Y4;rw[List.map_append];rfl
 have h2:l.drop j=Zm l j::l.drop (j+1):=by rw[List.drop_eq_getElem_cons h,qet h]
 have e:(Y4 x (l.take j)).length=j:=by unfold Y4;rw[AF,AR];omega
 unfold Rk;rw[h1,h2];split
 ·rw[List.set_append_right _ _ (by omega),e,Nat.sub_self,List.set_cons_zero,AM];rfl
 ·rw[AM];rfl
theorem qAl (x:Qm)(l:List Qm):Rk x l l.length=Y4 x l:=by
 unfold Rk;rw[List.take_length,List.drop_length,BM]
theorem qwt (x:Qm)(l:List Qm):Rk x l 0=l:=by
 unfold Rk Y4;simp
theorem qsp (A:OA)(n c:Nat)(l:List Qm)(x y:Qm)(w:WD)(h:Zg w A n c l)(hn:n<=1000)(hx:x.may=true)(hF:Yi x.name l=some y) :
  Calls prog 22 #[.slice A n c,.agg #[.string x.name,.int .i64 x.ino,.int .i64 x.kind]] w λe w'=>∃A' c',e=.returned (.tuple #[.slice A' n c',.int .i64 0])/\Ia w w' A' n c' (Y4 x l):=by
 have W:IB (w.alloc (.cells #[.string x.name,.int .i64 x.ino,.int .i64 x.kind] 32)) w.1.size x.vs:=IB.new w _ _;have O:Below w.1.size w (w.alloc (.cells #[.string x.name,.int .i64 x.ino,.int .i64 x.kind] 32)):=Qi;have h1:=h.below O;have hl:=h.len;have b7:0<n:=by
  rw[<-hl]
  cases l with
  |nil=>cases hF
  |cons a r=>simp
 clear h;go_enter func22,ntmps22
 go_wp2_with fail
 generalize w.alloc (.cells #[.string x.name,.int .i64 x.ino,.int .i64 x.kind] 32)=w1 at W O h1 ⊢;refine (q5p x true hx w1).mono ?_;rintro e w2 ⟨rfl,X⟩;have p:=W.below X W.lt;have l2:=p.lt;have n0:=p.cell 0 rfl;have h2:=h1.below X;have V:=O.trans (X.mono O.size);have R:=q4z A n c l x.name w2 h2 (some y) hF;rw[qmh,qmi] at R;replace R:=HI R;clear W O X h1;go_wp2_with fail
 refine R.out.mono ?_;rintro e m ⟨rfl,B⟩;have b4:Below m.1.size m (m.alloc (.cells #[.string y.name,.int .i64 y.ino,.int .i64 y.kind] 32)):=Qi;have Y:Below m.1.size m ((m.alloc (.cells #[.string y.name,.int .i64 y.ino,.int .i64 y.kind] 32)).alloc (.cells #[] 32)):=b4.alloc b4.size _;have O5:Jz ((m.alloc (.cells #[.string y.name,.int .i64 y.ino,.int .i64 y.kind] 32)).alloc (.cells #[] 32)) (m.1.size+1) (some ⟨m.1.size+1,0,none⟩) 0 0 []:=by
  have:=q1g (m.alloc (.cells #[.string y.name,.int .i64 y.ino,.int .i64 y.kind] 32));rwa [BH] at this
 have h5:=(h2.below B).below Y;have N5:=(p.below B p.lt).below Y (by have:=B.size;omega);have B5:=(V.trans (B.mono V.size)).trans (Y.mono (AZ V.size B.size));have z3:=B.size;have zz:((m.alloc (.cells #[.string y.name,.int .i64 y.ino,.int .i64 y.kind] 32)).alloc (.cells #[] 32)).1.size=m.1.size+2:=by simp
 clear n0 p h2 V B b4 Y R;go_wp2_with (first
  |(at_builtin;refine q36 rfl (.tmp 27) (.tmp 28) rfl rfl O5 A n c l rfl h5 (by omega) (by omega) ?_;intro A6 c6 w6 u X6 a1;rw[AT,BG] at u;rw[AT])
  |fail)
 obtain⟨g,rfl⟩:∃g,A6=some ⟨g,0,none⟩:=by
  rcases u.1.2 with⟨hv,b8⟩|⟨g',cap,a8,hv,_,hg,_⟩
  ·exfalso
   have h1:=u.ents.len;injection hv with h2 h3 h4;omega
  ·injection hv with h1;exact⟨g',h1⟩
 have b0:m.1.size+1<=g:=(u.Qa g rfl).1;have b6:Below (m.1.size+1) ((m.alloc (.cells #[.string y.name,.int .i64 y.ino,.int .i64 y.kind] 32)).alloc (.cells #[] 32)) w6:=X6.below (λk G=>by have:m.1.size+1=k:=OI G;omega) (by omega);have N6:=N5.below b6 (by omega);have B6:=B5.trans (b6.mono (by omega));have K:=u.there;have h6:=u.ents;obtain⟨a7,a2⟩:=h6.bounds;unfold maxLen at a2;have hF:=HI hF;clear O5 h5 N5 B5 zz X6 b6 a1 u;go_loopw [10] (λs wr=>∃j:Nat,j<=n/\s=.int .i64 (j:Int)/\Zg wr (some ⟨g,0,none⟩) n c6 (Rk x l j)/\wr.there g 0 (n*3)/\IB wr w.1.size x.vs/\Below w.1.size w wr) (λs _=>n-(intOf s).toNat)
 case atStart=>exact⟨0,AW _,rfl,by rw[qwt];exact h6,K,N6,B6⟩
 case round=>
  clear h6 K N6 B6;obtain⟨j,hj,rfl,J,K,I,H⟩:=hrel;by_cases T:j<n
  ·have e0:(0:Int)<=(j:Int):=by omega
   have e1:(j:Int)<(n:Int):=by omega
   obtain⟨g2,o2,Q,hg,hr⟩:=J.at_ T;injection Q with Q;injection Q with Q e3;subst Q e3;rw[qCd (by omega)] at hr;have f:=qws (x:=x) (l:=l) (j:=j) (by omega);have x0:=hr 0 _ rfl;rw[Nat.add_zero,AT] at x0;have n0:=I.cell 0 rfl;clear hr
   cases F:eqS (Zm l j).name x.name with
   |true=>
    have hq:((Zm l j).name.toList==x.name.toList)=true:=F;rw[(Nz _ _).1 F] at x0 hq;rw[AA F] at f;replace f:=HI f;clear F;go_wp2_with fail
    go_quiet (fail)
    have D:Below wr.1.size wr (World.drewN wr nq):=Nb (AI _ wr) nq;have E:=J.below D;have q:(World.drewN wr nq).there g 0 (n*3):=K;have p:=I.below D I.lt;have P:=H.trans (D.mono H.size);have a6:=p.cell 0 rfl;generalize World.drewN wr nq=M at E q p P a6 ⊢;have tj:M.there g (j*3) 3:=λi hi=>by
     have:=q (j*3+i) (by omega);rwa [<-Nat.add_assoc,AT] at this
    have T9:Turn (λk=>k=g) M (M.setCells g (j*3) x.vs):=Vp (S:=λk=>k=g) rfl _ _ M;have Z:=E.Vo q T x;rw[AT] at Z;have U:=World.there_setCells q g (j*3) x.vs;have N9:IB (M.setCells g (j*3) x.vs) w.1.size x.vs:=p.keep (T9.block _ p.lt λe=>by have e:w.1.size=g:=e;omega);have B9:=P.trans (T9.below (λk G=>by have G:k=g:=G;omega) P.size);clear J E K q I H;go_wp2_with (first
     |(refine q8n rfl _ _ rfl w.1.size rfl x.vs p rfl rfl rfl ?_)
     |(refine wpList_store_mid rfl _ _ _ rfl g (j*3) x.vs.toArray rfl rfl tj (by kernel_rfl) (by simp[Value.oneCell',Qm.vs]) ?_;generalize M.setCells g (j*3) x.vs.toArray.toList=w9 at Z U N9 B9 ⊢)
     |fail)
    refine⟨⟨j+1,by omega,by go_num,by rw[f.out];exact Z,U,N9,B9⟩,by simp[intOf];omega⟩
   |false=>
    have hq:((Zm l j).name.toList==x.name.toList)=false:=F;rw[AB (by rw[F];exact Bool.false_ne_true)] at f;replace f:=HI f;clear F;go_wp2_with fail
    go_quiet (fail)
    have D:Below wr.1.size wr (World.drewN wr nq):=Nb (AI _ wr) nq;have P:=H.trans (D.mono H.size);go_wp2_with fail
    refine⟨⟨j+1,by omega,by go_num,by rw[f.out];exact J.below D,K,I.below D I.lt,P⟩,by simp[intOf];omega⟩
  ·obtain rfl:j=n:=by omega
   have e1:¬(j:Int)<(j:Int):=by omega
   rw[<-hl,qAl,hl] at J;go_wp2_with fail
   go_ret2;exact⟨_,_,rfl,⟨J,λk G=>(by have G:g=k:=OI G;omega),H⟩⟩
theorem qwu (A:OA)(n c:Nat)(l:List Qm)(x:Qm)(w:WD)(h:Zg w A n c l)(H:x.may=true)(hF:Yi x.name l=none) :
  Calls prog 22 #[.slice A n c,.agg #[.string x.name,.int .i64 x.ino,.int .i64 x.kind]] w λe w'=>e=.returned (.tuple #[.slice A n c,.int .i64 10])/\Below w.1.size w w':=by
 have p:IB (w.alloc (.cells #[.string x.name,.int .i64 x.ino,.int .i64 x.kind] 32)) w.1.size x.vs:=IB.new w _ _;have f:Below w.1.size w (w.alloc (.cells #[.string x.name,.int .i64 x.ino,.int .i64 x.kind] 32)):=Qi;have h1:=h.below f;clear h;go_enter func22,ntmps22
 go_wp2_with fail
 generalize w.alloc (.cells #[.string x.name,.int .i64 x.ino,.int .i64 x.kind] 32)=J at p f h1 ⊢;refine (q5p x true H J).mono ?_;rintro e K ⟨rfl,q⟩;have D:=p.below q p.lt;have I:=D.cell 0 rfl;have h2:=h1.below q;have u:=f.trans (q.mono f.size);have m:=q4z A n c l x.name K h2 none hF;rw[show lkE none=Qm.zero from rfl,show lkC none=10 from rfl] at m;replace m:=HI m;clear p f q h1;go_wp2_with fail
 refine m.out.mono ?_;rintro e y ⟨rfl,E⟩;have G:Below y.1.size y (y.alloc (.cells #[.string Qm.zero.name,.int .i64 Qm.zero.ino,.int .i64 Qm.zero.kind] 32)):=Qi;have B:=u.trans (E.mono u.size);have F:=B.trans (G.mono B.size);clear I D h2 u E m;go_wp2_with fail
 go_ret2;exact⟨rfl,F⟩
