/- Superblocks: the code's body and Write -/
import Derived.Test.YthkfkhejjmhomaaGreatDoorDz12
namespace Go.Proofs.YthkfkhejjmhomaaGreatDoor
open Go Go.RowKit Go.Proofs
set_option maxHeartbeats 4000000
set_option maxRecDepth 100000
section
def Cb (p:Value):Sem Value:=Instr.loadAt 120 p
theorem Yz (p:Value):Instr.loadAt 120 p=Cb p:=rfl
def Bv (p:Value):Sem Value:=Instr.loadAt 118 p
theorem Vr (p:Value):Instr.loadAt 118 p=Bv p:=rfl
theorem SB.ld {w:World}{b:Nat}{S:Sp}(H:SB w b S):(Cb (.pointer (some ⟨b,0,none⟩))).run Tryz.prog w=.ok (.agg S.vs.toArray) w:=Zfq H
theorem SB.lda {w:World}{b:Nat}{S:Sp}(H:SB w b S):(Bv (.pointer (some ⟨b,3,none⟩))).run Tryz.prog w=.ok (.agg (S.Zp.flatMap Vl.vs).toArray) w:=Zfr H
attribute [local go_sem ↓] Yz Vr
def Yb (S:Sp):List UInt8:=Qm S 8
theorem Qwt (S:Sp)(hv:∀j,j<8->(S.at_ j).name.size<=10)(w:World) :
  Calls Tryz.prog 208 #[.agg S.vs.toArray] w λe X=>∃Q U R,e=.returned (.slice Q U R)/\Own X w.1.size 5 Q U R (Yb S)/\Below w.1.size w X:=by
 have q:=SB.new w S 120;have H:Below w.1.size w (w.alloc (.cells S.vs.toArray 120)):=Ib;have W:=q.c1;go_enter Tryz.func208,Tryz.ntmps208
 go_wp2_with fail
 generalize w.alloc (.cells S.vs.toArray 120)=w1 at q H W ⊢;refine (Qdw none 0 0 [] S.Qa 2 _ (Sm _) (by omega) (by omega) (by omega)).mono ?_;rintro e w2 ⟨Y,n2,c2,rfl,g,a2,u⟩;have F:=q.below u q.lt;have G:=H.trans (u.mono H.size);have q2:=F.c2;clear W;go_wp2_with fail
 refine (Qdw Y n2 c2 _ S.log 2 _ g.sl (by omega) (by omega) (by omega)).mono ?_;rintro e w3 ⟨Z,n3,c3,rfl,d,a6,y⟩;have H3:=F.below y F.lt;have B3:=G.trans (y.mono G.size);have q3:=H3.lda;have e3:[]++Zw S.Qa (2:Int).toNat++Zw S.log (2:Int).toNat=Qm S 0:=by rw[Dc];rfl
 rw[e3] at d;have d:=d.less G.size;clear q2 q F g;go_wp2_with fail
 go_loopw [3,15] (λb i wr=>∃(k:Nat) (A:Option Addr) (n c:Nat),k<=8/\n<=4+18*k/\b=.slice A n c/\i=.int .i64 (k:Int)/\Own wr w.1.size 5 A n c (Qm S k)/\Below w.1.size w wr) (λ_ i _=>8-(intOf i).toNat)
 case atStart=>exact⟨0,Z,n3,c3,by omega,by omega,rfl,rfl,d,B3⟩
 case round=>
  obtain⟨k,A,n,c,hk,hn,rfl,rfl,own,J⟩:=hrel;by_cases p:k<8
  ·have M:=Zdv S p;have a1:(0:Int)<=(k:Int):=by omega
   have B:=Lib.hid (q1z S p);have D:=hv k p;obtain⟨x,T⟩:∃x,S.at_ k=x:=⟨_,rfl⟩;rw[T] at M D B;clear T;go_wp2_with fail
   have I:Below wr.1.size wr (wr.alloc (.cells #[.string x.name,.bool x.ro,.int .i64 x.root,.int .i64 x.next] 117)):=Ib;have E:=own.below I;have f:=J.trans (I.mono J.size);generalize wr.alloc (.cells #[.string x.name,.bool x.ro,.int .i64 x.root,.int .i64 x.next] 117)=wx at I E f ⊢;refine (Qsi x D A n c _ wx E.sl (by omega)).mono ?_;rintro e w5 ⟨A5,V,c5,rfl,m,P,K⟩;rw[<-B.out] at m;have z:V<=4+18*(k+1):=by omega
   clear P;go_wp2;exact⟨⟨k+1,A5,V,c5,by omega,z,rfl,by go_num,m.less f.size,f.trans (K.mono f.size)⟩,by simp[intOf];omega⟩
  ·have O:k=8:=by omega
   rw[O] at own;go_wp2;go_ret;exact⟨_,_,_,rfl,own,J⟩
end
def Hl (l:List UInt8):ByteArray:=⟨((l.drop 1).take (min (gN l 0 1) 10)).toArray⟩
def Hq (l:List UInt8):Vl:=⟨Hl l,decide (gN l 11 1≠0),(gN l 12 2:Int),(gN l 14 4:Int)⟩
theorem Zac (l:List UInt8):(Hl l).size<=10:=by
 unfold Hl;show (List.take _ _).toArray.size<=10;rw[List.size_toArray,List.length_take];omega
theorem Qk2 {l0:List UInt8}(p m n:Nat){A:Option Addr}{c:Nat}{w:World}(h:Sl w A n c (l0.drop p))(u:Int)(E:u=(m:Int))(h1:1<=m)(F:m<=7)(hn:m<=n)(D:n<=100000) :
  Calls Tryz.prog 151 #[.slice A n c,.int .i64 u] w λe q=>∃f d g,e=.returned (.tuple #[.int .i64 (gN l0 p m),.slice f d g,.int .i64 0])/\Own q w.1.size 5 f d g (l0.drop (p+m))/\(d+m<=n/\n<=d+m)/\Below w.1.size w q:=by
 refine (Qby A n c _ u w h (by omega) (by omega) (by omega) (by omega)).mono ?_;rintro e q ⟨f,d,g,rfl,own,y⟩;subst E;rw[Int.toNat_natCast,List.drop_drop] at own;rw[Int.toNat_natCast];have z:=own.len;have B:=h.len;rw[List.length_drop] at z B;exact⟨f,d,g,rfl,own,⟨by omega,by omega⟩,y⟩
theorem Own.some_ {w:World}{base n c:Nat}{e:TypeId}{A:Option Addr}{l:List UInt8}(h:Own w base e A n c l)(h0:0<n):∃g,A=some ⟨g,0,none⟩:=by
 rcases h.2 with⟨d,rfl⟩|⟨g,cap,f,d,_⟩
 ·omega
 ·injection d with m;exact⟨g,m⟩
theorem VB.set0 {w:World}{b:Nat}{v:Vl}(H:VB w b v)(s:ByteArray):VB (w.setCell ⟨b,0,none⟩ (.string s)) b ⟨s,v.ro,v.root,v.next⟩:=by
 obtain⟨t,H⟩:=H;exact⟨t,heap_setCell_same w b 0 _ t _ H⟩
theorem VB.set1 {w:World}{b:Nat}{v:Vl}(H:VB w b v)(x:Bool):VB (w.setCell ⟨b,1,none⟩ (.bool x)) b ⟨v.name,x,v.root,v.next⟩:=by
 obtain⟨t,H⟩:=H;exact⟨t,heap_setCell_same w b 1 _ t _ H⟩
theorem VB.set2 {w:World}{b:Nat}{v:Vl}(H:VB w b v)(x:Int):VB (w.setCell ⟨b,2,none⟩ (.int .i64 x)) b ⟨v.name,v.ro,x,v.next⟩:=by
 obtain⟨t,H⟩:=H;exact⟨t,heap_setCell_same w b 2 _ t _ H⟩
theorem VB.Zgc {w:World}{b:Nat}{v:Vl}(H:VB w b v)(x:Int):VB (w.setCell ⟨b,3,none⟩ (.int .i64 x)) b ⟨v.name,v.ro,v.root,x⟩:=by
 obtain⟨t,H⟩:=H;exact⟨t,heap_setCell_same w b 3 _ t _ H⟩
theorem Qdt {w:World}{b base n c j:Nat}{e:TypeId}{A:Option Addr}{l:List UInt8}(own:Own w base e A n c l)(d:b<base)(x:Value):Own (w.setCell ⟨b,j,none⟩ x) base e A n c l:=
 own.turn λg f _=>Below.heap_setCell _ _ _ _ (by show g≠b;omega)
theorem Qai (w:World)(b j:Nat)(x:Value):Below b w (w.setCell ⟨b,j,none⟩ x):=(Below.refl _ w).setCell (p:=⟨b,j,none⟩) (Nat.le_refl _) _
theorem Oy {g:Func}{p a:Tmp}{ty:TypeId}{f:Addr}{v:Value}{P:Program}{w:World}{d:Array Value}(h:g.results=#[.cell p ty,.tmp a])(q:d.getD p undef=.pointer (some f))(m:(loadVar ty f).run P w=.ok v w) :
  (results g d).run P w=.ok (.tuple #[v,d.getD a undef]) w:=by
 have e:(results g d).run P w=((asAddr (d.getD p undef)).run P w).andThen λf u=>((loadVar ty f).run P u).andThen λv y=>.ok (.tuple #[v,d.getD a undef]) y:=by
  simp only[results,h];simp[Sem.run_bind,Result.andThen]
 rw[e,q];simp[asAddr,m]
theorem Qqg (A:Option Addr)(n c:Nat)(l:List UInt8)(w:World)(hs:Sl w A n c l)(hn:18<=n)(d7:n<=1000) :
  Calls Tryz.prog 270 #[.slice A n c] w λe w'=>
   ∃A' n' c',e=.returned (.tuple #[(Hq l).v,.slice A' n' c'])/\Own w' w.1.size 5 A' n' c' (l.drop 18)/\(n'+18<=n/\n<=n'+18)/\Below w.1.size w w':=by
 have Z1:VB (w.alloc (.cells #[.string ⟨#[]⟩,.bool false,.int .i64 0,.int .i64 0] 117)) w.1.size Vl.zero:=VB.new w Vl.zero _;have b1:Below w.1.size w (w.alloc (.cells #[.string ⟨#[]⟩,.bool false,.int .i64 0,.int .i64 0] 117)):=Ib;have z1:(w.alloc (.cells #[.string ⟨#[]⟩,.bool false,.int .i64 0,.int .i64 0] 117)).1.size=w.1.size+1:=by simp
 go_enter Tryz.func270,Tryz.ntmps270
 go_wp2_with fail
 generalize w.alloc (.cells #[.string ⟨#[]⟩,.bool false,.int .i64 0,.int .i64 0] 117)=Q at Z1 b1 z1 ⊢;rw[<-z1];have V2:VB (Q.alloc (.cells #[.string ⟨#[]⟩,.bool false,.int .i64 0,.int .i64 0] 117)) Q.1.size Vl.zero:=VB.new Q Vl.zero _;have b2:Below Q.1.size Q (Q.alloc (.cells #[.string ⟨#[]⟩,.bool false,.int .i64 0,.int .i64 0] 117)):=Ib;generalize Q.alloc (.cells #[.string ⟨#[]⟩,.bool false,.int .i64 0,.int .i64 0] 117)=w2 at V2 b2 ⊢;have Z2:=Z1.below b2 (by omega);have B2:=b1.trans (b2.mono b1.size);obtain⟨f,a2⟩:∃f,Q.1.size=f:=⟨_,rfl⟩;rw[a2] at V2 ⊢;have e3:w.1.size<f:=by omega
 clear Z1 b1 b2 z1 a2;refine (Qk2 (l0:=l) 0 1 n (hs.below B2) 1 rfl (by omega) (by omega) (by omega) (by omega)).mono ?_;rintro e p ⟨A3,n3,c3,rfl,d,d8,E⟩;have V3:=V2.below E V2.lt;have Z3:=Z2.below E Z2.lt;have B3:=B2.trans (E.mono B2.size);have b0:=V2.lt;obtain⟨m,hm⟩:∃m,gN l 0 1=m:=⟨_,rfl⟩;have u:=Lib.hid (show Hl l=⟨((l.drop 1).take (min m 10)).toArray⟩ by unfold Hl;rw[hm]);rw[hm];clear hm Z2 V2;have v3:=V3.c0;have f3:=V3.fz 0;have d:Own p w2.1.size 5 A3 n3 c3 (l.drop 1):=d;have d6:=d.sl.cap;have d1:=d.sl.max;unfold maxLen at d1;obtain⟨g3,d2⟩:=d.some_ (by omega);subst d2;obtain⟨nm,I⟩:∃nm,Hl l=nm:=⟨_,rfl⟩;have b8:=Lib.hid I;have b4:m<=10->(convert 48 9 (.slice (some ⟨g3,0,none⟩) m c3)).run Tryz.prog p=.ok (.string nm) p:=λh=>by
  have:=Qde (d.sl.take (k:=m) (by omega));rw[this,<-I,u.out,Nat.min_eq_left h]
 have b5:10<m->(convert 48 9 (.slice (some ⟨g3,0,none⟩) 10 c3)).run Tryz.prog p=.ok (.string nm) p:=λh=>by
  have:=Qde (d.sl.take (k:=10) (by omega));rw[this,<-I,u.out,Nat.min_eq_right (by omega)]
 have D:=d.sl.drop (k:=10) (by omega);rw[if_neg (by omega),List.drop_drop] at D;have D:Sl p (some ⟨g3,10,none⟩) (n3-10) (c3-10) (l.drop 11):=D;have i1:(10:Nat)<=c3:=by omega
 have i2:¬c3=10:=by omega
 clear I u;rcases (by omega:m<=10\/10<m) with hm|hm
 all_goals
  have i3:((m:Int)<=10)=(m<=10):=by rw[eq_iff_iff];omega
  first|(have J:=b4 hm;have i4:(m:Int)<=10:=by omega)|(have J:=b5 hm;have i4:¬(m:Int)<=10:=by omega)
  have i5:(0:Int)<=(m:Int):=by omega
  have i6:m<=10->m<=c3:=by omega
  clear b4 b5 i3;have K:=Qdt d (show f<w2.1.size from b0) (j:=0) (.string nm);have R:=Qai p f 0 (.string nm);have V:Sl (p.setCell ⟨f,0,none⟩ (.string nm)) (some ⟨g3,10,none⟩) (n3-10) (c3-10) (l.drop 11):=by
   have:=K.sl.drop (k:=10) (by omega);rw[if_neg (by omega),List.drop_drop] at this;exact this
  have V4:=V3.set0 nm;have Z4:=Z3.below R (by omega);have B4:=B3.trans (R.mono (by omega));have z4:(p.setCell ⟨f,0,none⟩ (.string nm)).1.size=p.1.size:=World.size_setCell ..;go_wp2_with fail
  clear J K R D v3 f3 V3 Z3 B3 d;have e4:=E.size;have a6:f<(p.setCell ⟨f,0,none⟩ (.string nm)).1.size:=by omega
  generalize p.setCell ⟨f,0,none⟩ (.string nm)=w4 at V V4 Z4 B4 z4 a6 ⊢;refine (Qk2 (l0:=l) 11 1 (n3-10) V 1 rfl (by omega) (by omega) (by omega) (by omega)).mono ?_;rintro e w5 ⟨A5,n5,c5,rfl,M,d9,F⟩;have V5:=V4.below F V4.lt;have Z5:=Z4.below F Z4.lt;have B5:=B4.trans (F.mono B4.size);obtain⟨mk,W⟩:∃mk,gN l 11 1=mk:=⟨_,rfl⟩;rw[W];have v5:=V5.c1;have f5:=V5.fz 1;obtain⟨ro,X⟩:∃ro,decide (mk≠0)=ro:=⟨_,rfl⟩;have b3:((mk:Int)!=0)=ro:=by rw[<-X,Bool.eq_iff_iff];simp
  have b9:=Lib.hid (show decide (gN l 11 1≠0)=ro by rw[W];exact X);have y:=Qdt M (show f<w4.1.size from a6) (j:=1) (.bool ro);have T:=Qai w5 f 1 (.bool ro);have V6:=V5.set1 ro;have Z6:=Z5.below T (by omega);have B6:=B5.trans (T.mono (by omega));have z6:(w5.setCell ⟨f,1,none⟩ (.bool ro)).1.size=w5.1.size:=World.size_setCell ..;clear X W;go_wp2_with fail
  clear M T v5 f5 V5 Z5 B5 b3 V V4 Z4 B4 z4;have e5:=F.size;have a7:f<(w5.setCell ⟨f,1,none⟩ (.bool ro)).1.size:=by omega
  have d4:w4.1.size<=(w5.setCell ⟨f,1,none⟩ (.bool ro)).1.size:=by omega
  generalize w5.setCell ⟨f,1,none⟩ (.bool ro)=w6 at y V6 Z6 B6 z6 a7 d4 ⊢;refine (Qk2 (l0:=l) 12 2 n5 y.sl 2 rfl (by omega) (by omega) (by omega) (by omega)).mono ?_;rintro e w7 ⟨A7,n7,c7,rfl,O,e0,G⟩;have V7:=V6.below G V6.lt;have Z7:=Z6.below G Z6.lt;have B7:=B6.trans (G.mono B6.size);have v7:=V7.c2;have f7:=V7.fz 2;have z:=Qdt O (show f<w6.1.size from a7) (j:=2) (.int .i64 (gN l 12 2:Int));have U:=Qai w7 f 2 (.int .i64 (gN l 12 2:Int));have V8:=V7.set2 (gN l 12 2:Int);have Z8:=Z7.below U (by omega);have B8:=B7.trans (U.mono (by omega));have z8:(w7.setCell ⟨f,2,none⟩ (.int .i64 (gN l 12 2:Int))).1.size=w7.1.size:=World.size_setCell ..;go_wp2_with fail
  clear O U v7 f7 V7 Z7 B7 y V6 Z6 B6 z6;have e6:=G.size;have a8:f<(w7.setCell ⟨f,2,none⟩ (.int .i64 (gN l 12 2:Int))).1.size:=by omega
  generalize w7.setCell ⟨f,2,none⟩ (.int .i64 (gN l 12 2:Int))=w8 at z V8 Z8 B8 z8 a8 ⊢;refine (Qk2 (l0:=l) 14 4 n7 z.sl 4 rfl (by omega) (by omega) (by omega) (by omega)).mono ?_;rintro e w9 ⟨A9,n9,c9,rfl,P,e1,H⟩;have V9:=V8.below H V8.lt;have Z9:=Z8.below H Z8.lt;have B9:=B8.trans (H.mono B8.size);have v9:=V9.c3;have f9:=V9.fz 3;have Y:=Qdt P (show f<w8.1.size from a8) (j:=3) (.int .i64 (gN l 14 4:Int));have q:=Qai w9 f 3 (.int .i64 (gN l 14 4:Int));have B:=V9.Zgc (gN l 14 4:Int);have d0:=Z9.below q (by omega);have b6:=B9.trans (q.mono (by omega));have u0:=B.c0;have u1:=B.c1;have u2:=B.c2;have u3:=B.c3;have e7:=H.size;have e2:w.1.size<w8.1.size:=by omega
  clear P q V9 Z9 B9 z V8 Z8 B8 z8;go_wp2_with (first
   |(refine Qqt rfl _ _ rfl w.1.size rfl ⟨nm,ro,(gN l 12 2:Int),(gN l 14 4:Int)⟩ Vl.zero rfl d0 ?_;intro d5 c8 a1 c6)
   |fail)
  have Z:=Y.turn (w':=d5) λg hg hl=>c6.block g hl (by show ¬g=w.1.size;omega)
  have b7:=b6.trans (a1 _ (Nat.le_refl _));have d3:Hq l=⟨nm,ro,(gN l 12 2:Int),(gN l 14 4:Int)⟩:=by unfold Hq;rw[b8.out,b9.out]
  refine bodyPost_ret (Oy Tryz.results270 rfl (Zcv c8)) rfl ?_;rw[d3];exact⟨A9,n9,c9,rfl,Z.less (by omega),⟨by omega,by omega⟩,b7⟩
section
def Kv (g:Int)(l:List UInt8)(k:Nat):Sp:=⟨g,(gN l 0 2:Int),(gN l 2 2:Int),(List.range 8).map (λi=>if i<k then Hq (l.drop (4+18*i)) else Vl.zero),by simp⟩
def Ho (g:Int)(l:List UInt8):Sp:=Kv g l 8
def sp0 (g a b:Int):Sp:=⟨g,a,b,List.replicate 8 Vl.zero,rfl⟩
theorem Qsl (g:Int)(l:List UInt8):Kv g l 0=sp0 g (gN l 0 2:Int) (gN l 2 2:Int):=rfl
theorem Qsk (g:Int)(l:List UInt8){k:Nat}(_:k<8):(Kv g l k).Qwv k (Hq (l.drop (4+18*k)))=Kv g l (k+1):=by
 refine Sp.ext' rfl rfl rfl ?_;show (((List.range 8).map (λi=>if i<k then Hq (l.drop (4+18*i)) else Vl.zero)).set k (Hq (l.drop (4+18*k))))=(List.range 8).map (λi=>if i<k+1 then Hq (l.drop (4+18*i)) else Vl.zero);refine List.ext_getElem (by simp) λi h1 h2=>?_
 have hi:i<8:=by simpa using h2
 rw[List.getElem_set];by_cases h:k=i
 ·subst h;simp
 ·rw[if_neg h];simp only[List.getElem_map,List.getElem_range];by_cases d:i<k
  ·rw[if_pos d,if_pos (by omega)]
  ·rw[if_neg d,if_neg (by omega)]
theorem Zae (g:Int)(l:List UInt8)(k:Nat){i:Nat}(hi:i<8):(Kv g l k).at_ i=if i<k then Hq (l.drop (4+18*i)) else Vl.zero:=by
 have h:=(Kv g l k).get hi;have h2:(Kv g l k).Zp[i]?=some (if i<k then Hq (l.drop (4+18*i)) else Vl.zero):=by
  show ((List.range 8).map (λi=>if i<k then Hq (l.drop (4+18*i)) else Vl.zero))[i]?=_;rw[List.getElem?_map,List.getElem?_range hi];rfl
 rw[h] at h2;exact Option.some.inj h2
theorem Zad (g:Int)(l:List UInt8):(Ho g l).fine:=λk d=>by
 unfold Ho;rw[Zae g l 8 d,if_pos d];have:=Zac (l.drop (4+18*k));unfold maxLen;show (Hl _).size<=_;omega
theorem SB.set1 {w:World}{b:Nat}{S:Sp}(H:SB w b S)(x:Int):SB (w.setCell ⟨b,1,none⟩ (.int .i64 x)) b ⟨S.gen,x,S.log,S.Zp,S.len⟩:=by
 obtain⟨t,H⟩:=H;exact⟨t,heap_setCell_same w b 1 _ t _ H⟩
theorem SB.set2 {w:World}{b:Nat}{S:Sp}(H:SB w b S)(x:Int):SB (w.setCell ⟨b,2,none⟩ (.int .i64 x)) b ⟨S.gen,S.Qa,x,S.Zp,S.len⟩:=by
 obtain⟨t,H⟩:=H;exact⟨t,heap_setCell_same w b 2 _ t _ H⟩
theorem Qqr {e:Array Oper}{d:List Oper}{o:Oper}{a:Act}{w:World}{Q:Exit->Act->World->Prop}(p:o.guard=none)(x y:Operand)(g:o.op=Op.store 117 x y)
  (b k:Nat) (q:k<8) (u:a.eval x=.pointer (some ⟨b,3+k*4,none⟩)) (v:Vl) (S:Sp) (z:a.eval y=v.v) (H:SB w b S)
  (m:∀f,SB f b (S.Qwv k v)->(∀B,B<=b->Below B w f)->Turn (λk=>k=b) w f->wpList Tryz.prog e Q d (a.put o.dst undef) f):wpList Tryz.prog e Q (o::d) a w:=
 Qqs p x y g b k q (by rw[u,Nat.mul_comm]) v S z H m
def Bd (h:Bool)(old:Value):Sem Value:=Instr.alloc 120 h old
theorem Uo (h:Bool)(old:Value):Instr.alloc 120 h old=Bd h old:=rfl
def Bg (parts:Array (Nat × Value)):Sem Value:=Instr.build 120 parts
theorem Ur (parts:Array (Nat × Value)):Instr.build 120 parts=Bg parts:=rfl
theorem Qhr (h:Bool)(w:World):(Bd h (.tuple #[])).run Tryz.prog w=.ok (.pointer (some ⟨w.1.size,0,none⟩)) (w.alloc (.cells Sp.zero.vs.toArray 120)):=by
 cases h
 ·show (Instr.alloc 120 false (.tuple #[])).run Tryz.prog w=_;kernel_rfl
 ·show (Instr.alloc 120 true (.tuple #[])).run Tryz.prog w=_;kernel_rfl
theorem Qno (w:World):(Bg #[]).run Tryz.prog w=.ok (.agg Sp.zero.vs.toArray) w:=by
 show (Instr.build 120 #[]).run Tryz.prog w=_;kernel_rfl
theorem Zbw (g:Int)(w:World):(Bg #[(0,.int .i64 g)]).run Tryz.prog w=.ok (.agg (sp0 g 0 0).vs.toArray) w:=by
 show (Instr.build 120 #[(0,.int .i64 g)]).run Tryz.prog w=_;kernel_rfl
attribute [local go_sem ↓] Yz Vr Uo Ur
theorem Qkv (g:Int)(A:Option Addr)(n c:Nat)(l:List UInt8)(w:World)(hs:Sl w A n c l)(hn:148<=n)(d3:n<=1000) :
  Calls Tryz.prog 248 #[.int .i64 g,.slice A n c] w λe w'=>e=.returned (.agg (Ho g l).vs.toArray)/\Below w.1.size w w':=by
 have a7:=Qhr;have a8:=Zbw g;have Z1:=SB.new w Sp.zero 120;have b1:Below w.1.size w (w.alloc (.cells Sp.zero.vs.toArray 120)):=Ib;have z1:(w.alloc (.cells Sp.zero.vs.toArray 120)).1.size=w.1.size+1:=by simp
 have H2:=SB.new (w.alloc (.cells Sp.zero.vs.toArray 120)) Sp.zero 120;rw[z1] at H2;go_enter Tryz.func248,Tryz.ntmps248
 go_wp2_with (first
  |(refine Iz rfl _ _ rfl (w.1.size+1) rfl (sp0 g 0 0) Sp.zero rfl H2 ?_;intro w3 Q U T3)
  |fail)
 have b2:Below (w.alloc (.cells Sp.zero.vs.toArray 120)).1.size (w.alloc (.cells Sp.zero.vs.toArray 120)) ((w.alloc (.cells Sp.zero.vs.toArray 120)).alloc (.cells Sp.zero.vs.toArray 120)):=Ib;rw[z1] at b2;have b3:=b2.trans (U _ (Nat.le_refl _));have Z3:=Z1.below b3 (by omega);have B3:=b1.trans (b3.mono (by omega));obtain⟨d,V⟩:∃d,w.1.size+1=d:=⟨_,rfl⟩;rw[V] at Q ⊢;have b8:w.1.size<d:=by omega
 have a1:=hs.below B3;clear Z1 b1 z1 H2 U T3 b2 b3 V a7 a8;refine (Qk2 (l0:=l) 0 2 n a1 2 rfl (by omega) (by omega) (by omega) (by omega)).mono ?_;rintro e w4 ⟨A4,n4,c4,rfl,D,b4,f⟩;have H4:=Q.below f Q.lt;have Z4:=Z3.below f Z3.lt;have B4:=B3.trans (f.mono B3.size);have q4:=H4.c1;have f4:=H4.fz 1;obtain⟨G,M⟩:∃G:Int,(gN l 0 2:Int)=G:=⟨_,rfl⟩;rw[M];have E:=Qdt D (show d<w3.1.size from Q.lt) (j:=1) (.int .i64 G);have I:=Qai w4 d 1 (.int .i64 G);have R:=H4.set1 G;have Z5:=Z4.below I (by omega);have B5:=B4.trans (I.mono (by omega));have z5:(w4.setCell ⟨d,1,none⟩ (.int .i64 G)).1.size=w4.1.size:=World.size_setCell ..;go_wp2_with fail
 clear D I q4 f4 H4 Z4 B4 Q Z3 B3 a1;have b9:=f.size;generalize w4.setCell ⟨d,1,none⟩ (.int .i64 G)=w5 at E R Z5 B5 z5 ⊢;refine (Qk2 (l0:=l) 2 2 n4 E.sl 2 rfl (by omega) (by omega) (by omega) (by omega)).mono ?_;rintro e P ⟨A6,n6,c6,rfl,F,b5,B⟩;have H6:=R.below B R.lt;have Z6:=Z5.below B Z5.lt;have B6:=B5.trans (B.mono B5.size);have q6:=H6.c2;have f6:=H6.fz 2;obtain⟨z,O⟩:∃z:Int,(gN l 2 2:Int)=z:=⟨_,rfl⟩;rw[O];have u:=Qdt F (show d<w5.1.size from R.lt) (j:=2) (.int .i64 z);have J:=Qai P d 2 (.int .i64 z);have H7:=H6.set2 z;have Z7:=Z6.below J (by omega);have B7:=B6.trans (J.mono (by omega));have z7:(P.setCell ⟨d,2,none⟩ (.int .i64 z)).1.size=P.1.size:=World.size_setCell ..;go_wp2_with fail
 clear F J q6 f6 H6 Z6 B6 R Z5 B5;have d4:n6+4<=n/\n<=n6+4:=by omega
 have e7:∀H:Sp,SB (P.setCell ⟨d,2,none⟩ (.int .i64 z)) d H->H=sp0 g G z->SB (P.setCell ⟨d,2,none⟩ (.int .i64 z)) d (Kv g l 0):=λH h e=>by
  rw[Qsl,M,O,<-e];exact h
 have H7:=e7 _ H7 rfl;generalize P.setCell ⟨d,2,none⟩ (.int .i64 z)=w7 at u H7 Z7 B7 z7 e7 ⊢;have a6:Sl w7 A6 n6 c6 (l.drop (4+18*0)):=u.sl;clear e7 u B f M O z7 z5 b5 b4 b9;go_loopw [1,23] (λb i wr=>∃(k m:Nat) (A:Option Addr) (c:Nat),k<=8/\n<=m+4+18*k/\m<=n/\b=.slice A m c/\i=.int .i64 (k:Int)/\Sl wr A m c (l.drop (4+18*k))/\SB wr d (Kv g l k)/\SB wr w.1.size Sp.zero/\Below w.1.size w wr) (λ_ i _=>8-(intOf i).toNat)
 case atStart=>exact⟨0,n6,A6,c6,by omega,by omega,by omega,rfl,rfl,a6,H7,Z7,B7⟩
 case round=>
  clear a6 H7 Z7 B7;obtain⟨k,m,A,c,hk,d1,d2,rfl,rfl,sl,H,Z,hB⟩:=hrel;by_cases W:k<8
  ·have c7:(0:Int)<=(k:Int):=by omega
   have Y:=Lib.hid (Qsk g l W);go_wp2_with fail
   refine (Qqg A m c _ wr sl (by omega) (by omega)).mono ?_;rintro e w8 ⟨A8,n8,c8,rfl,y,b6,K⟩;have H8:=H.below K H.lt;have Z8:=Z.below K Z.lt;have B8:=hB.trans (K.mono hB.size);rw[List.drop_drop,show 4+18*k+18=4+18*(k+1) by omega] at y;have d0:=H.lt;have b7:n<=n8+4+18*(k+1):=by omega
   have X:n8<=n:=by omega
   clear H Z hB sl b6;obtain⟨v,hv⟩:∃v,Hq (l.drop (4+18*k))=v:=⟨_,rfl⟩;have T:=Lib.hid (show (Kv g l k).Qwv k v=Kv g l (k+1) by rw[<-hv];exact Y.out);rw[hv];clear hv Y;go_wp2_with (first
    |(refine Qqr rfl _ _ rfl d k W rfl v (Kv g l k) rfl H8 ?_;intro w9 H9 p T9)
    |fail)
   rw[T.out] at H9;have a2:=y.turn (w':=w9) λq hq hl=>T9.block q hl (by show ¬q=d;omega)
   have Z9:=Z8.below (p d (Nat.le_refl _)) b8;have B9:=B8.trans (p _ (by omega));clear T H8 Z8 B8 y T9 p;go_wp2;exact⟨⟨k+1,n8,A8,c8,by omega,b7,X,rfl,by go_num,a2.sl,H9,Z9,B9⟩,by simp[intOf];omega⟩
  ·have b0:k=8:=by omega
   subst b0;have H:SB wr d (Ho g l):=H;have c9:=H.ld;go_wp2_with (first
    |(refine Iz rfl _ _ rfl w.1.size rfl (Ho g l) Sp.zero rfl Z ?_;intro w9 H9 p T9)
    |fail)
   refine bodyPost_ret (Sv Tryz.results248 rfl (Qag H9)) rfl ?_;exact⟨rfl,hB.trans (p _ (Nat.le_refl _))⟩
end
section
def Bo (S:Sp)(slot:Int):Hd:=⟨1,slot,0,0,S.gen⟩
def X8 (S:Sp)(slot:Int):Bool:=S.may&&decide (0<=slot/\slot<=1)
def swE (S:Sp)(slot:Int):Int:=if X8 S slot=true then 0 else 1
def swB (S:Sp)(slot:Int):List UInt8:=if X8 S slot=true then Zl (Bo S slot) (Yb S) else []
theorem Dp {S:Sp}(h:S.may=true):(1<=S.gen/\S.gen<=1099511627775/\32<=S.Qa/\S.Qa<=2048/\0<=S.log/\S.log<=S.Qa-1)/\∀j,j<8->S.ok1 j=true:=by
 unfold Sp.may at h;rw[Bool.and_eq_true] at h;exact⟨of_decide_eq_true h.1,λj d=>List.all_eq_true.1 h.2 j (List.mem_range.2 d)⟩
theorem Ei {s:ByteArray}(h:X6 s=true):1<=s.size/\s.size<=10:=by
 unfold X6 at h;rw[Bool.and_eq_true] at h;exact of_decide_eq_true h.2
theorem Dq {S:Sp}{j:Nat}(h:S.ok1 j=true):S.at_ j=Vl.zero\/(X6 (S.at_ j).name=true/\(0<=(S.at_ j).root/\(S.at_ j).root<=S.Qa-1)/\(2<=(S.at_ j).next/\(S.at_ j).next<=2147483647)):=by
 unfold Sp.ok1 at h;rw[Bool.or_eq_true] at h;rcases h with h|h
 ·exact .inl ((Vl.same_iff _ _).1 h)
 ·rw[Bool.and_eq_true] at h;have h:=h.1;unfold Vl.ok at h;rw[Bool.and_eq_true,Bool.and_eq_true] at h;exact .inr ⟨h.1,of_decide_eq_true h.2.1,of_decide_eq_true h.2.2⟩
theorem Dt {S:Sp}(h:S.may=true):∀j,j<8->(S.at_ j).name.size<=10:=λj d=>by
 rcases Dq ((Dp h).2 j d) with e|⟨h,_⟩
 ·rw[e];show 0<=10;omega
 ·exact (Ei h).2
theorem Qrr {S:Sp}{slot:Int}(h:X8 S slot=true):(Bo S slot).ok=true:=by
 unfold X8 at h;rw[Bool.and_eq_true] at h;have h1:=(Dp h.1).1;have h2:=of_decide_eq_true h.2;refine decide_eq_true ⟨⟨?_,?_⟩,⟨?_,?_⟩,⟨?_,?_⟩,⟨?_,?_⟩,?_,?_⟩<;>(dsimp only[Bo];omega)
theorem Du {S:Sp}(h:S.may=true):(Yb S).length=148:=Zj S 8 (by omega) (Dt h)
theorem Qnh {S:Sp}{slot:Int}(h:X8 S slot=true):swE S slot=0/\swB S slot=Zl (Bo S slot) (Yb S)/\J5 (Bo S slot) (Yb S)=0/\Xu (Bo S slot) (Yb S)=Zl (Bo S slot) (Yb S):=by
 have hm:S.may=true:=by unfold X8 at h;rw[Bool.and_eq_true] at h;exact h.1
 have d:=Du hm;unfold swE swB J5 Xu;rw[if_pos h,if_pos h,if_pos (Qrr h),if_pos (by omega),if_pos (Qrr h),if_pos (by omega)];exact⟨rfl,rfl,rfl,rfl⟩
theorem Za9 {S:Sp}{slot:Int}(h:X8 S slot=false):swE S slot=1/\swB S slot=[]:=by
 unfold swE swB;rw[h];exact⟨rfl,rfl⟩
attribute [local go_sem ↓] Yz Vr
theorem Qew (S:Sp)(slot:Int)(hf:S.fine)(w:World)(ht:Tab w) :
  Calls Tryz.prog 136 #[.agg S.vs.toArray,.int .i64 slot] w λe f=>
   ∃P n' Q,e=.returned (.tuple #[.slice P n' Q,.int .i64 (swE S slot)])/\Own f w.1.size 5 P n' Q (swB S slot)/\(X8 S slot=true->∃g,P=some ⟨g,0,none⟩/\n'=256/\Q=256)/\Below w.1.size w f:=by
 have E:=SB.new w S 120;have M:Below w.1.size w (w.alloc (.cells S.vs.toArray 120)):=Ib;have O:=ht.below M ht.1;have H:=E.ld;obtain⟨m,hm⟩:∃m,S.may=m:=⟨_,rfl⟩;go_enter Tryz.func136,Tryz.ntmps136
 go_wp2_with fail
 generalize w.alloc (.cells S.vs.toArray 120)=w1 at E M H O ⊢;refine (Zat S m hm hf w1).mono ?_;rintro e d ⟨rfl,y⟩;have F:=E.below y E.lt;have D:=M.trans (y.mono M.size);have t2:=O.below y O.1;have Z:=F.ld;have q2:=F.c0;clear E H y O
 cases m
 ·obtain⟨h1,h2⟩:=Za9 (S:=S) (slot:=slot) (by unfold X8;rw[hm];rfl);have z:X8 S slot=false:=by unfold X8;rw[hm];rfl
  go_wp2;go_ret2;rw[h1,h2,z];exact⟨_,_,_,rfl,Qa9 _ _ _,λh=>(by cases h),D⟩
 ·go_wp2_with fail
  by_cases u:0<=slot/\slot<=1
  ·have A:X8 S slot=true:=by unfold X8;rw[hm,decide_eq_true u];rfl
   obtain⟨h1,h2,h3,h4⟩:=Qnh A;have R:=Lib.hid h1;have T:=Lib.hid h2;have a2:=Lib.hid A;refine (Ll slot 0 1 true (decide_eq_true u) _).mono ?_;rintro e K ⟨rfl,rfl⟩;go_wp2_with fail
   have U:∀f:World,Below d.1.size d f->f.cell? ⟨w.1.size,0,none⟩=some (.int .i64 S.gen)/\(Cb (.pointer (some ⟨w.1.size,0,none⟩))).run Tryz.prog f=.ok (.agg S.vs.toArray) f/\Below d.1.size d f:=
    λf V=>⟨(V.cell (p:=⟨w.1.size,0,none⟩) F.lt).trans q2,(F.below V F.lt).ld,V⟩
   have BD:Below d.1.size d d.drew:=(Below.refl _ _).drew;have zd:d.1.size<=d.drew.1.size:=Nat.le_refl _;have a1:=Dt hm;clear u h1 h2 Z A;go_region_held3 (λf=>f.cell? ⟨w.1.size,0,none⟩=some (.int .i64 S.gen)/\(Cb (.pointer (some ⟨w.1.size,0,none⟩))).run Tryz.prog f=.ok (.agg S.vs.toArray) f/\Below d.1.size d f)
    (first|assumption|exact U _ BD|exact U _ q|exact U _ G)
    (first
     |(go_at_call 208;refine (Qwt S a1 _).mono ?_;rintro e K ⟨A3,n3,c3,rfl,B,W⟩;have I:Own K d.1.size 5 A3 n3 c3 _:=B;have q:Below d.1.size d K:=BD.trans (W.mono zd))
     |(go_at_call 122;refine (Qdc (Bo S slot) A3 n3 c3 _ K I.sl (t2.below q t2.1)).mono ?_;rw[h3,h4];rintro e w4 ⟨A4,n4,c4,rfl,J,Y,X⟩;have G:Below d.1.size d w4:=q.trans (X.mono (Below.size q)))
     |fail)
   go_wp2;go_ret2;rw[R.out,T.out];exact⟨_,_,_,rfl,(J.less (Below.size q)).less D.size,λ_=>Y (by first|trivial|rfl),D.trans (G.mono D.size)⟩
  ·have z:X8 S slot=false:=by unfold X8;rw[hm,decide_eq_false u];rfl
   obtain⟨h1,h2⟩:=Za9 z;refine (Ll slot 0 1 false (decide_eq_false u) _).mono ?_;rintro e K ⟨rfl,rfl⟩;go_wp2;go_ret2;rw[h1,h2,z];exact⟨_,_,_,rfl,Qa9 _ _ _,λh=>(by cases h),D⟩
end
