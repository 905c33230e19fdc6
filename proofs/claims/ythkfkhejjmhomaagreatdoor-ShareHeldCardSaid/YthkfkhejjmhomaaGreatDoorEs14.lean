/- Superblocks: the code's body and Write -/
import Derived.Test.YthkfkhejjmhomaaGreatDoorEs13
namespace Go.Proofs.YthkfkhejjmhomaaGreatDoor
open Go Go.RowKit Go.Proofs
set_option maxHeartbeats 4000000
set_option maxRecDepth 100000
section
def ldS (p:Value):Sem Value:=Instr.loadAt 120 p
theorem q23 (p:Value):Instr.loadAt 120 p=ldS p:=rfl
def ldA (p:Value):Sem Value:=Instr.loadAt 118 p
theorem q6v (p:Value):Instr.loadAt 118 p=ldA p:=rfl
theorem SB.ld {w:World}{b:Nat}{S:Sp}(H:SB w b S):(ldS (.pointer (some ⟨b,0,none⟩))).run Tryz.prog w=.ok (.agg S.vs.toArray) w:=Qcf H
theorem SB.lda {w:World}{b:Nat}{S:Sp}(H:SB w b S):(ldA (.pointer (some ⟨b,3,none⟩))).run Tryz.prog w=.ok (.agg (S.Jq.flatMap Vl.vs).toArray) w:=Qcg H
attribute [local go_sem ↓] q23 q6v
def Jb (S:Sp):List UInt8:=Zw S 8
theorem qoi (S:Sp)(hv:∀j,j<8->(S.at_ j).name.size<=10)(w:World) :
  Calls Tryz.prog 208 #[.agg S.vs.toArray] w λe w'=>∃U Y W,e=.returned (.slice U Y W)/\Own w' w.1.size 5 U Y W (Jb S)/\Below w.1.size w w':=by
 have y:=SB.new w S 120;have K:Below w.1.size w (w.alloc (.cells S.vs.toArray 120)):=Qn;have q1:=y.c1;go_enter Tryz.func208,Tryz.ntmps208
 go_wp2_with fail
 generalize w.alloc (.cells S.vs.toArray 120)=w1 at y K q1 ⊢;refine (q7v none 0 0 [] S.Qb 2 _ (Np _) (by omega) (by omega) (by omega)).mono ?_;rintro e w2 ⟨A2,n2,c2,rfl,m,a1,B⟩;have I:=y.below B y.lt;have J:=K.trans (B.mono K.size);have q2:=I.c2;clear q1;go_wp2_with fail
 refine (q7v A2 n2 c2 _ S.log 2 _ m.sl (by omega) (by omega) (by omega)).mono ?_;rintro e w3 ⟨A3,n3,c3,rfl,d,a2,D⟩;have H3:=I.below D I.lt;have B3:=J.trans (D.mono J.size);have q3:=H3.lda;have e3:[]++Zc S.Qb (2:Int).toNat++Zc S.log (2:Int).toNat=Zw S 0:=by rw[qa6];rfl
 rw[e3] at d;have d:=d.less J.size;clear q2 y I m;go_wp2_with fail
 go_loopw [3,15] (λb i wr=>∃(k:Nat) (A:Option Addr) (n c:Nat),k<=8/\n<=4+18*k/\b=.slice A n c/\i=.int .i64 (k:Int)/\Own wr w.1.size 5 A n c (Zw S k)/\Below w.1.size w wr) (λ_ i _=>8-(intOf i).toNat)
 case atStart=>exact⟨0,A3,n3,c3,by omega,by omega,rfl,rfl,d,B3⟩
 case round=>
  obtain⟨k,A,n,c,hk,hn,rfl,rfl,own,O⟩:=hrel;by_cases u:k<8
  ·have Q:=qyd S u;have a0:(0:Int)<=(k:Int):=by omega
   have F:=Lib.hid (qa7 S u);have G:=hv k u;obtain⟨x,X⟩:∃x,S.at_ k=x:=⟨_,rfl⟩;rw[X] at Q G F;clear X;go_wp2_with fail
   have M:Below wr.1.size wr (wr.alloc (.cells #[.string x.name,.bool x.ro,.int .i64 x.root,.int .i64 x.next] 117)):=Qn;have H:=own.below M;have f:=O.trans (M.mono O.size);generalize wr.alloc (.cells #[.string x.name,.bool x.ro,.int .i64 x.root,.int .i64 x.next] 117)=wx at M H f ⊢;refine (qlx x G A n c _ wx H.sl (by omega)).mono ?_;rintro e w5 ⟨A5,Z,c5,rfl,p,T,P⟩;rw[<-F.out] at p;have E:Z<=4+18*(k+1):=by omega
   clear T;go_wp2;exact⟨⟨k+1,A5,Z,c5,by omega,E,rfl,by go_num,p.less f.size,f.trans (P.mono f.size)⟩,by simp[intOf];omega⟩
  ·have R:k=8:=by omega
   rw[R] at own;go_wp2;go_ret;exact⟨_,_,_,rfl,own,O⟩
end
def rdN (l:List UInt8):ByteArray:=⟨((l.drop 1).take (min (gN l 0 1) 10)).toArray⟩
def Iz (l:List UInt8):Vl:=⟨rdN l,decide (gN l 11 1≠0),(gN l 12 2:Int),(gN l 14 4:Int)⟩
theorem qt6 (l:List UInt8):(rdN l).size<=10:=by
 unfold rdN;show (List.take _ _).toArray.size<=10;rw[List.size_toArray,List.length_take];omega
theorem Dx {l0:List UInt8}(p m n:Nat){A:Option Addr}{c:Nat}{w:World}(h:Sl w A n c (l0.drop p))(y:Int)(G:y=(m:Int))(h1:1<=m)(H:m<=7)(hn:m<=n)(F:n<=100000) :
  Calls Tryz.prog 151 #[.slice A n c,.int .i64 y] w λe u=>∃d b f,e=.returned (.tuple #[.int .i64 (gN l0 p m),.slice d b f,.int .i64 0])/\Own u w.1.size 5 d b f (l0.drop (p+m))/\(b+m<=n/\n<=b+m)/\Below w.1.size w u:=by
 refine (q7f A n c _ y w h (by omega) (by omega) (by omega) (by omega)).mono ?_;rintro e u ⟨d,b,f,rfl,own,B⟩;subst G;rw[Int.toNat_natCast,List.drop_drop] at own;rw[Int.toNat_natCast];have D:=own.len;have E:=h.len;rw[List.length_drop] at D E;exact⟨d,b,f,rfl,own,⟨by omega,by omega⟩,B⟩
theorem Own.some_ {w:World}{base n c:Nat}{e:TypeId}{A:Option Addr}{l:List UInt8}(h:Own w base e A n c l)(h0:0<n):∃g,A=some ⟨g,0,none⟩:=by
 rcases h.2 with⟨b,rfl⟩|⟨g,cap,d,b,_⟩
 ·omega
 ·injection b with f;exact⟨g,f⟩
theorem VB.set0 {w:World}{b:Nat}{v:Vl}(H:VB w b v)(s:ByteArray):VB (w.setCell ⟨b,0,none⟩ (.string s)) b ⟨s,v.ro,v.root,v.next⟩:=by
 obtain⟨t,H⟩:=H;exact⟨t,heap_setCell_same w b 0 _ t _ H⟩
theorem VB.set1 {w:World}{b:Nat}{v:Vl}(H:VB w b v)(x:Bool):VB (w.setCell ⟨b,1,none⟩ (.bool x)) b ⟨v.name,x,v.root,v.next⟩:=by
 obtain⟨t,H⟩:=H;exact⟨t,heap_setCell_same w b 1 _ t _ H⟩
theorem VB.set2 {w:World}{b:Nat}{v:Vl}(H:VB w b v)(x:Int):VB (w.setCell ⟨b,2,none⟩ (.int .i64 x)) b ⟨v.name,v.ro,x,v.next⟩:=by
 obtain⟨t,H⟩:=H;exact⟨t,heap_setCell_same w b 2 _ t _ H⟩
theorem VB.Qc1 {w:World}{b:Nat}{v:Vl}(H:VB w b v)(x:Int):VB (w.setCell ⟨b,3,none⟩ (.int .i64 x)) b ⟨v.name,v.ro,v.root,x⟩:=by
 obtain⟨t,H⟩:=H;exact⟨t,heap_setCell_same w b 3 _ t _ H⟩
theorem q7w {w:World}{b base n c j:Nat}{e:TypeId}{A:Option Addr}{l:List UInt8}(own:Own w base e A n c l)(d:b<base)(x:Value):Own (w.setCell ⟨b,j,none⟩ x) base e A n c l:=
 own.turn λg f _=>Below.heap_setCell _ _ _ _ (by show g≠b;omega)
theorem q3f (w:World)(b j:Nat)(x:Value):Below b w (w.setCell ⟨b,j,none⟩ x):=(Below.refl _ w).setCell (p:=⟨b,j,none⟩) (Nat.le_refl _) _
theorem q1w {f:Func}{p a:Tmp}{ty:TypeId}{d:Addr}{v:Value}{P:Program}{w:World}{b:Array Value}(h:f.results=#[.cell p ty,.tmp a])(u:b.getD p undef=.pointer (some d))(m:(loadVar ty d).run P w=.ok v w) :
  (results f b).run P w=.ok (.tuple #[v,b.getD a undef]) w:=by
 have e:(results f b).run P w=((asAddr (b.getD p undef)).run P w).andThen λd y=>((loadVar ty d).run P y).andThen λv A=>.ok (.tuple #[v,b.getD a undef]) A:=by
  simp only[results,h];simp[Sem.run_bind,Result.andThen]
 rw[e,u];simp[asAddr,m]
theorem qhv (A:Option Addr)(n c:Nat)(l:List UInt8)(w:World)(hs:Sl w A n c l)(hn:18<=n)(d4:n<=1000) :
  Calls Tryz.prog 270 #[.slice A n c] w λe w'=>
   ∃A' n' c',e=.returned (.tuple #[(Iz l).v,.slice A' n' c'])/\Own w' w.1.size 5 A' n' c' (l.drop 18)/\(n'+18<=n/\n<=n'+18)/\Below w.1.size w w':=by
 have Z1:VB (w.alloc (.cells #[.string ⟨#[]⟩,.bool false,.int .i64 0,.int .i64 0] 117)) w.1.size Vl.zero:=VB.new w Vl.zero _;have b1:Below w.1.size w (w.alloc (.cells #[.string ⟨#[]⟩,.bool false,.int .i64 0,.int .i64 0] 117)):=Qn;have z1:(w.alloc (.cells #[.string ⟨#[]⟩,.bool false,.int .i64 0,.int .i64 0] 117)).1.size=w.1.size+1:=by simp
 go_enter Tryz.func270,Tryz.ntmps270
 go_wp2_with fail
 generalize w.alloc (.cells #[.string ⟨#[]⟩,.bool false,.int .i64 0,.int .i64 0] 117)=R at Z1 b1 z1 ⊢;rw[<-z1];have V2:VB (R.alloc (.cells #[.string ⟨#[]⟩,.bool false,.int .i64 0,.int .i64 0] 117)) R.1.size Vl.zero:=VB.new R Vl.zero _;have b2:Below R.1.size R (R.alloc (.cells #[.string ⟨#[]⟩,.bool false,.int .i64 0,.int .i64 0] 117)):=Qn;generalize R.alloc (.cells #[.string ⟨#[]⟩,.bool false,.int .i64 0,.int .i64 0] 117)=w2 at V2 b2 ⊢;have Z2:=Z1.below b2 (by omega);have B2:=b1.trans (b2.mono b1.size);obtain⟨d,a3⟩:∃d,R.1.size=d:=⟨_,rfl⟩;rw[a3] at V2 ⊢;have e0:w.1.size<d:=by omega
 clear Z1 b1 b2 z1 a3;refine (Dx (l0:=l) 0 1 n (hs.below B2) 1 rfl (by omega) (by omega) (by omega) (by omega)).mono ?_;rintro e f ⟨A3,n3,c3,rfl,b,d5,F⟩;have V3:=V2.below F V2.lt;have Z3:=Z2.below F Z2.lt;have B3:=B2.trans (F.mono B2.size);have a7:=V2.lt;obtain⟨m,hm⟩:∃m,gN l 0 1=m:=⟨_,rfl⟩;have u:=Lib.hid (show rdN l=⟨((l.drop 1).take (min m 10)).toArray⟩ by unfold rdN;rw[hm]);rw[hm];clear hm Z2 V2;have v3:=V3.c0;have f3:=V3.fz 0;have b:Own f w2.1.size 5 A3 n3 c3 (l.drop 1):=b;have d3:=b.sl.cap;have c6:=b.sl.max;unfold maxLen at c6;obtain⟨g3,c8⟩:=b.some_ (by omega);subst c8;obtain⟨nm,J⟩:∃nm,rdN l=nm:=⟨_,rfl⟩;have b5:=Lib.hid J;have a9:m<=10->(convert 48 9 (.slice (some ⟨g3,0,none⟩) m c3)).run Tryz.prog f=.ok (.string nm) f:=λh=>by
  have:=q7h (b.sl.take (k:=m) (by omega));rw[this,<-J,u.out,Nat.min_eq_left h]
 have b0:10<m->(convert 48 9 (.slice (some ⟨g3,0,none⟩) 10 c3)).run Tryz.prog f=.ok (.string nm) f:=λh=>by
  have:=q7h (b.sl.take (k:=10) (by omega));rw[this,<-J,u.out,Nat.min_eq_right (by omega)]
 have E:=b.sl.drop (k:=10) (by omega);rw[if_neg (by omega),List.drop_drop] at E;have E:Sl f (some ⟨g3,10,none⟩) (n3-10) (c3-10) (l.drop 11):=E;have i1:(10:Nat)<=c3:=by omega
 have i2:¬c3=10:=by omega
 clear J u;rcases (by omega:m<=10\/10<m) with hm|hm
 all_goals
  have i3:((m:Int)<=10)=(m<=10):=by rw[eq_iff_iff];omega
  first|(have K:=a9 hm;have i4:(m:Int)<=10:=by omega)|(have K:=b0 hm;have i4:¬(m:Int)<=10:=by omega)
  have i5:(0:Int)<=(m:Int):=by omega
  have i6:m<=10->m<=c3:=by omega
  clear a9 b0 i3;have M:=q7w b (show d<w2.1.size from a7) (j:=0) (.string nm);have T:=q3f f d 0 (.string nm);have X:Sl (f.setCell ⟨d,0,none⟩ (.string nm)) (some ⟨g3,10,none⟩) (n3-10) (c3-10) (l.drop 11):=by
   have:=M.sl.drop (k:=10) (by omega);rw[if_neg (by omega),List.drop_drop] at this;exact this
  have V4:=V3.set0 nm;have Z4:=Z3.below T (by omega);have B4:=B3.trans (T.mono (by omega));have z4:(f.setCell ⟨d,0,none⟩ (.string nm)).1.size=f.1.size:=World.size_setCell ..;go_wp2_with fail
  clear K M T E v3 f3 V3 Z3 B3 b;have e1:=F.size;have a4:d<(f.setCell ⟨d,0,none⟩ (.string nm)).1.size:=by omega
  generalize f.setCell ⟨d,0,none⟩ (.string nm)=w4 at X V4 Z4 B4 z4 a4 ⊢;refine (Dx (l0:=l) 11 1 (n3-10) X 1 rfl (by omega) (by omega) (by omega) (by omega)).mono ?_;rintro e w5 ⟨A5,n5,c5,rfl,O,d6,G⟩;have V5:=V4.below G V4.lt;have Z5:=Z4.below G Z4.lt;have B5:=B4.trans (G.mono B4.size);obtain⟨mk,Y⟩:∃mk,gN l 11 1=mk:=⟨_,rfl⟩;rw[Y];have v5:=V5.c1;have f5:=V5.fz 1;obtain⟨ro,Z⟩:∃ro,decide (mk≠0)=ro:=⟨_,rfl⟩;have a8:((mk:Int)!=0)=ro:=by rw[<-Z,Bool.eq_iff_iff];simp
  have b6:=Lib.hid (show decide (gN l 11 1≠0)=ro by rw[Y];exact Z);have y:=q7w O (show d<w4.1.size from a4) (j:=1) (.bool ro);have U:=q3f w5 d 1 (.bool ro);have V6:=V5.set1 ro;have Z6:=Z5.below U (by omega);have B6:=B5.trans (U.mono (by omega));have z6:(w5.setCell ⟨d,1,none⟩ (.bool ro)).1.size=w5.1.size:=World.size_setCell ..;clear Z Y;go_wp2_with fail
  clear O U v5 f5 V5 Z5 B5 a8 X V4 Z4 B4 z4;have e2:=G.size;have a5:d<(w5.setCell ⟨d,1,none⟩ (.bool ro)).1.size:=by omega
  have d1:w4.1.size<=(w5.setCell ⟨d,1,none⟩ (.bool ro)).1.size:=by omega
  generalize w5.setCell ⟨d,1,none⟩ (.bool ro)=w6 at y V6 Z6 B6 z6 a5 d1 ⊢;refine (Dx (l0:=l) 12 2 n5 y.sl 2 rfl (by omega) (by omega) (by omega) (by omega)).mono ?_;rintro e w7 ⟨A7,n7,c7,rfl,P,d7,H⟩;have V7:=V6.below H V6.lt;have Z7:=Z6.below H Z6.lt;have B7:=B6.trans (H.mono B6.size);have v7:=V7.c2;have f7:=V7.fz 2;have B:=q7w P (show d<w6.1.size from a5) (j:=2) (.int .i64 (gN l 12 2:Int));have W:=q3f w7 d 2 (.int .i64 (gN l 12 2:Int));have V8:=V7.set2 (gN l 12 2:Int);have Z8:=Z7.below W (by omega);have B8:=B7.trans (W.mono (by omega));have z8:(w7.setCell ⟨d,2,none⟩ (.int .i64 (gN l 12 2:Int))).1.size=w7.1.size:=World.size_setCell ..;go_wp2_with fail
  clear P W v7 f7 V7 Z7 B7 y V6 Z6 B6 z6;have e3:=H.size;have a6:d<(w7.setCell ⟨d,2,none⟩ (.int .i64 (gN l 12 2:Int))).1.size:=by omega
  generalize w7.setCell ⟨d,2,none⟩ (.int .i64 (gN l 12 2:Int))=w8 at B V8 Z8 B8 z8 a6 ⊢;refine (Dx (l0:=l) 14 4 n7 B.sl 4 rfl (by omega) (by omega) (by omega) (by omega)).mono ?_;rintro e w9 ⟨A9,n9,c9,rfl,Q,d8,I⟩;have V9:=V8.below I V8.lt;have Z9:=Z8.below I Z8.lt;have B9:=B8.trans (I.mono B8.size);have v9:=V9.c3;have f9:=V9.fz 3;have a0:=q7w Q (show d<w8.1.size from a6) (j:=3) (.int .i64 (gN l 14 4:Int));have p:=q3f w9 d 3 (.int .i64 (gN l 14 4:Int));have D:=V9.Qc1 (gN l 14 4:Int);have b9:=Z9.below p (by omega);have b3:=B9.trans (p.mono (by omega));have u0:=D.c0;have u1:=D.c1;have u2:=D.c2;have u3:=D.c3;have e4:=I.size;have d9:w.1.size<w8.1.size:=by omega
  clear Q p V9 Z9 B9 B V8 Z8 B8 z8;go_wp2_with (first
   |(refine qhs rfl _ _ rfl w.1.size rfl ⟨nm,ro,(gN l 12 2:Int),(gN l 14 4:Int)⟩ Vl.zero rfl b9 ?_;intro d2 b8 a2 b7)
   |fail)
  have a1:=a0.turn (w':=d2) λg hg hl=>b7.block g hl (by show ¬g=w.1.size;omega)
  have b4:=b3.trans (a2 _ (Nat.le_refl _));have d0:Iz l=⟨nm,ro,(gN l 12 2:Int),(gN l 14 4:Int)⟩:=by unfold Iz;rw[b5.out,b6.out]
  refine bodyPost_ret (q1w Tryz.results270 rfl (qwf b8)) rfl ?_;rw[d0];exact⟨A9,n9,c9,rfl,a1.less (by omega),⟨by omega,by omega⟩,b4⟩
section
def Vs (g:Int)(l:List UInt8)(k:Nat):Sp:=⟨g,(gN l 0 2:Int),(gN l 2 2:Int),(List.range 8).map (λi=>if i<k then Iz (l.drop (4+18*i)) else Vl.zero),by simp⟩
def rdS (g:Int)(l:List UInt8):Sp:=Vs g l 8
def sp0 (g a b:Int):Sp:=⟨g,a,b,List.replicate 8 Vl.zero,rfl⟩
theorem qly (g:Int)(l:List UInt8):Vs g l 0=sp0 g (gN l 0 2:Int) (gN l 2 2:Int):=rfl
theorem qlz (g:Int)(l:List UInt8){k:Nat}(_:k<8):(Vs g l k).Pv k (Iz (l.drop (4+18*k)))=Vs g l (k+1):=by
 refine Sp.ext' rfl rfl rfl ?_;show (((List.range 8).map (λi=>if i<k then Iz (l.drop (4+18*i)) else Vl.zero)).set k (Iz (l.drop (4+18*k))))=(List.range 8).map (λi=>if i<k+1 then Iz (l.drop (4+18*i)) else Vl.zero);refine List.ext_getElem (by simp) λi h1 h2=>?_
 have d:i<8:=by simpa using h2
 rw[List.getElem_set];by_cases h:k=i
 ·subst h;simp
 ·rw[if_neg h];simp only[List.getElem_map,List.getElem_range];by_cases b:i<k
  ·rw[if_pos b,if_pos (by omega)]
  ·rw[if_neg b,if_neg (by omega)]
theorem qt7 (g:Int)(l:List UInt8)(k:Nat){i:Nat}(b:i<8):(Vs g l k).at_ i=if i<k then Iz (l.drop (4+18*i)) else Vl.zero:=by
 have h:=(Vs g l k).get b;have h2:(Vs g l k).Jq[i]?=some (if i<k then Iz (l.drop (4+18*i)) else Vl.zero):=by
  show ((List.range 8).map (λi=>if i<k then Iz (l.drop (4+18*i)) else Vl.zero))[i]?=_;rw[List.getElem?_map,List.getElem?_range b];rfl
 rw[h] at h2;exact Option.some.inj h2
theorem qt8 (g:Int)(l:List UInt8):(rdS g l).fine:=λk b=>by
 unfold rdS;rw[qt7 g l 8 b,if_pos b];have:=qt6 (l.drop (4+18*k));unfold maxLen;show (rdN _).size<=_;omega
theorem SB.set1 {w:World}{b:Nat}{S:Sp}(H:SB w b S)(x:Int):SB (w.setCell ⟨b,1,none⟩ (.int .i64 x)) b ⟨S.gen,x,S.log,S.Jq,S.len⟩:=by
 obtain⟨t,H⟩:=H;exact⟨t,heap_setCell_same w b 1 _ t _ H⟩
theorem SB.set2 {w:World}{b:Nat}{S:Sp}(H:SB w b S)(x:Int):SB (w.setCell ⟨b,2,none⟩ (.int .i64 x)) b ⟨S.gen,S.Qb,x,S.Jq,S.len⟩:=by
 obtain⟨t,H⟩:=H;exact⟨t,heap_setCell_same w b 2 _ t _ H⟩
theorem qhw {ops:Array Oper}{d:List Oper}{o:Oper}{a:Act}{w:World}{Q:Exit->Act->World->Prop}(p:o.guard=none)(x y:Operand)(f:o.op=Op.store 117 x y)
  (b k:Nat) (u:k<8) (A:a.eval x=.pointer (some ⟨b,3+k*4,none⟩)) (v:Vl) (S:Sp) (D:a.eval y=v.v) (H:SB w b S)
  (m:∀e,SB e b (S.Pv k v)->(∀B,B<=b->Below B w e)->Turn (λk=>k=b) w e->wpList Tryz.prog ops Q d (a.put o.dst undef) e):wpList Tryz.prog ops Q (o::d) a w:=
 qhr p x y f b k u (by rw[A,Nat.mul_comm]) v S D H m
def alS (h:Bool)(old:Value):Sem Value:=Instr.alloc 120 h old
theorem q6w (h:Bool)(old:Value):Instr.alloc 120 h old=alS h old:=rfl
def bdS (parts:Array (Nat × Value)):Sem Value:=Instr.build 120 parts
theorem q9b (parts:Array (Nat × Value)):Instr.build 120 parts=bdS parts:=rfl
theorem qdq (h:Bool)(w:World):(alS h (.tuple #[])).run Tryz.prog w=.ok (.pointer (some ⟨w.1.size,0,none⟩)) (w.alloc (.cells Sp.zero.vs.toArray 120)):=by
 cases h
 ·show (Instr.alloc 120 false (.tuple #[])).run Tryz.prog w=_;kernel_rfl
 ·show (Instr.alloc 120 true (.tuple #[])).run Tryz.prog w=_;kernel_rfl
theorem qjx (w:World):(bdS #[]).run Tryz.prog w=.ok (.agg Sp.zero.vs.toArray) w:=by
 show (Instr.build 120 #[]).run Tryz.prog w=_;kernel_rfl
theorem qwk (g:Int)(w:World):(bdS #[(0,.int .i64 g)]).run Tryz.prog w=.ok (.agg (sp0 g 0 0).vs.toArray) w:=by
 show (Instr.build 120 #[(0,.int .i64 g)]).run Tryz.prog w=_;kernel_rfl
attribute [local go_sem ↓] q23 q6v q6w q9b
theorem qdr (g:Int)(A:Option Addr)(n c:Nat)(l:List UInt8)(w:World)(hs:Sl w A n c l)(hn:148<=n)(d1:n<=1000) :
  Calls Tryz.prog 248 #[.int .i64 g,.slice A n c] w λe w'=>e=.returned (.agg (rdS g l).vs.toArray)/\Below w.1.size w w':=by
 have a6:=qdq;have a7:=qwk g;have Z1:=SB.new w Sp.zero 120;have b1:Below w.1.size w (w.alloc (.cells Sp.zero.vs.toArray 120)):=Qn;have z1:(w.alloc (.cells Sp.zero.vs.toArray 120)).1.size=w.1.size+1:=by simp
 have H2:=SB.new (w.alloc (.cells Sp.zero.vs.toArray 120)) Sp.zero 120;rw[z1] at H2;go_enter Tryz.func248,Tryz.ntmps248
 go_wp2_with (first
  |(refine Ep rfl _ _ rfl (w.1.size+1) rfl (sp0 g 0 0) Sp.zero rfl H2 ?_;intro w3 R X T3)
  |fail)
 have b2:Below (w.alloc (.cells Sp.zero.vs.toArray 120)).1.size (w.alloc (.cells Sp.zero.vs.toArray 120)) ((w.alloc (.cells Sp.zero.vs.toArray 120)).alloc (.cells Sp.zero.vs.toArray 120)):=Qn;rw[z1] at b2;have b3:=b2.trans (X _ (Nat.le_refl _));have Z3:=Z1.below b3 (by omega);have B3:=b1.trans (b3.mono (by omega));obtain⟨d,Y⟩:∃d,w.1.size+1=d:=⟨_,rfl⟩;rw[Y] at R ⊢;have b6:w.1.size<d:=by omega
 have a3:=hs.below B3;clear Z1 b1 z1 H2 X T3 b2 b3 Y a6 a7;refine (Dx (l0:=l) 0 2 n a3 2 rfl (by omega) (by omega) (by omega) (by omega)).mono ?_;rintro e w4 ⟨A4,n4,c4,rfl,E,a9,f⟩;have H4:=R.below f R.lt;have Z4:=Z3.below f Z3.lt;have B4:=B3.trans (f.mono B3.size);have q4:=H4.c1;have f4:=H4.fz 1;obtain⟨I,O⟩:∃I:Int,(gN l 0 2:Int)=I:=⟨_,rfl⟩;rw[O];have F:=q7w E (show d<w3.1.size from R.lt) (j:=1) (.int .i64 I);have J:=q3f w4 d 1 (.int .i64 I);have T:=H4.set1 I;have Z5:=Z4.below J (by omega);have B5:=B4.trans (J.mono (by omega));have z5:(w4.setCell ⟨d,1,none⟩ (.int .i64 I)).1.size=w4.1.size:=World.size_setCell ..;go_wp2_with fail
 clear E J q4 f4 H4 Z4 B4 R Z3 B3 a3;have b7:=f.size;generalize w4.setCell ⟨d,1,none⟩ (.int .i64 I)=w5 at F T Z5 B5 z5 ⊢;refine (Dx (l0:=l) 2 2 n4 F.sl 2 rfl (by omega) (by omega) (by omega) (by omega)).mono ?_;rintro e Q ⟨A6,n6,c6,rfl,G,b0,D⟩;have H6:=T.below D T.lt;have Z6:=Z5.below D Z5.lt;have B6:=B5.trans (D.mono B5.size);have q6:=H6.c2;have f6:=H6.fz 2;obtain⟨B,P⟩:∃B:Int,(gN l 2 2:Int)=B:=⟨_,rfl⟩;rw[P];have u:=q7w G (show d<w5.1.size from T.lt) (j:=2) (.int .i64 B);have K:=q3f Q d 2 (.int .i64 B);have U:=H6.set2 B;have Z7:=Z6.below K (by omega);have B7:=B6.trans (K.mono (by omega));have z7:(Q.setCell ⟨d,2,none⟩ (.int .i64 B)).1.size=Q.1.size:=World.size_setCell ..;go_wp2_with fail
 clear G K q6 f6 H6 Z6 B6 T Z5 B5;have d2:n6+4<=n/\n<=n6+4:=by omega
 have e7:∀H:Sp,SB (Q.setCell ⟨d,2,none⟩ (.int .i64 B)) d H->H=sp0 g I B->SB (Q.setCell ⟨d,2,none⟩ (.int .i64 B)) d (Vs g l 0):=λH h e=>by
  rw[qly,O,P,<-e];exact h
 have U:=e7 _ U rfl;generalize Q.setCell ⟨d,2,none⟩ (.int .i64 B)=w7 at u U Z7 B7 z7 e7 ⊢;have a5:Sl w7 A6 n6 c6 (l.drop (4+18*0)):=u.sl;clear e7 u D f O P z7 z5 b0 a9 b7;go_loopw [1,23] (λb i wr=>∃(k m:Nat) (A:Option Addr) (c:Nat),k<=8/\n<=m+4+18*k/\m<=n/\b=.slice A m c/\i=.int .i64 (k:Int)/\Sl wr A m c (l.drop (4+18*k))/\SB wr d (Vs g l k)/\SB wr w.1.size Sp.zero/\Below w.1.size w wr) (λ_ i _=>8-(intOf i).toNat)
 case atStart=>exact⟨0,n6,A6,c6,by omega,by omega,by omega,rfl,rfl,a5,U,Z7,B7⟩
 case round=>
  clear a5 U Z7 B7;obtain⟨k,m,A,c,hk,c9,d0,rfl,rfl,sl,H,Z,hB⟩:=hrel;by_cases a0:k<8
  ·have b8:(0:Int)<=(k:Int):=by omega
   have a2:=Lib.hid (qlz g l a0);go_wp2_with fail
   refine (qhv A m c _ wr sl (by omega) (by omega)).mono ?_;rintro e w8 ⟨A8,n8,c8,rfl,y,b4,M⟩;have H8:=H.below M H.lt;have Z8:=Z.below M Z.lt;have B8:=hB.trans (M.mono hB.size);rw[List.drop_drop,show 4+18*k+18=4+18*(k+1) by omega] at y;have c7:=H.lt;have b5:n<=n8+4+18*(k+1):=by omega
   have a1:n8<=n:=by omega
   clear H Z hB sl b4;obtain⟨v,hv⟩:∃v,Iz (l.drop (4+18*k))=v:=⟨_,rfl⟩;have W:=Lib.hid (show (Vs g l k).Pv k v=Vs g l (k+1) by rw[<-hv];exact a2.out);rw[hv];clear hv a2;go_wp2_with (first
    |(refine qhw rfl _ _ rfl d k a0 rfl v (Vs g l k) rfl H8 ?_;intro w9 H9 p T9)
    |fail)
   rw[W.out] at H9;have a4:=y.turn (w':=w9) λq hq hl=>T9.block q hl (by show ¬q=d;omega)
   have Z9:=Z8.below (p d (Nat.le_refl _)) b6;have B9:=B8.trans (p _ (by omega));clear W H8 Z8 B8 y T9 p;go_wp2;exact⟨⟨k+1,n8,A8,c8,by omega,b5,a1,rfl,by go_num,a4.sl,H9,Z9,B9⟩,by simp[intOf];omega⟩
  ·have a8:k=8:=by omega
   subst a8;have H:SB wr d (rdS g l):=H;have b9:=H.ld;go_wp2_with (first
    |(refine Ep rfl _ _ rfl w.1.size rfl (rdS g l) Sp.zero rfl Z ?_;intro w9 H9 p T9)
    |fail)
   refine bodyPost_ret (q2o Tryz.results248 rfl (q3z H9)) rfl ?_;exact⟨rfl,hB.trans (p _ (Nat.le_refl _))⟩
end
section
def Cm (S:Sp)(slot:Int):Hd:=⟨1,slot,0,0,S.gen⟩
def Ye (S:Sp)(slot:Int):Bool:=S.may&&decide (0<=slot/\slot<=1)
def swE (S:Sp)(slot:Int):Int:=if Ye S slot=true then 0 else 1
def swB (S:Sp)(slot:Int):List UInt8:=if Ye S slot=true then Zt (Cm S slot) (Jb S) else []
theorem q1g {S:Sp}(h:S.may=true):(1<=S.gen/\S.gen<=1099511627775/\32<=S.Qb/\S.Qb<=2048/\0<=S.log/\S.log<=S.Qb-1)/\∀j,j<8->S.ok1 j=true:=by
 unfold Sp.may at h;rw[Bool.and_eq_true] at h;exact⟨of_decide_eq_true h.1,λj b=>List.all_eq_true.1 h.2 j (List.mem_range.2 b)⟩
theorem qjy {s:ByteArray}(h:Dh s=true):1<=s.size/\s.size<=10:=by
 unfold Dh at h;rw[Bool.and_eq_true] at h;exact of_decide_eq_true h.2
theorem qfa {S:Sp}{j:Nat}(h:S.ok1 j=true):S.at_ j=Vl.zero\/(Dh (S.at_ j).name=true/\(0<=(S.at_ j).root/\(S.at_ j).root<=S.Qb-1)/\(2<=(S.at_ j).next/\(S.at_ j).next<=2147483647)):=by
 unfold Sp.ok1 at h;rw[Bool.or_eq_true] at h;rcases h with h|h
 ·exact .inl ((Vl.same_iff _ _).1 h)
 ·rw[Bool.and_eq_true] at h;have h:=h.1;unfold Vl.ok at h;rw[Bool.and_eq_true,Bool.and_eq_true] at h;exact .inr ⟨h.1,of_decide_eq_true h.2.1,of_decide_eq_true h.2.2⟩
theorem q6x {S:Sp}(h:S.may=true):∀j,j<8->(S.at_ j).name.size<=10:=λj b=>by
 rcases qfa ((q1g h).2 j b) with e|⟨h,_⟩
 ·rw[e];show 0<=10;omega
 ·exact (qjy h).2
theorem qoj {S:Sp}{slot:Int}(h:Ye S slot=true):(Cm S slot).ok=true:=by
 unfold Ye at h;rw[Bool.and_eq_true] at h;have h1:=(q1g h.1).1;have h2:=of_decide_eq_true h.2;refine decide_eq_true ⟨⟨?_,?_⟩,⟨?_,?_⟩,⟨?_,?_⟩,⟨?_,?_⟩,?_,?_⟩<;>(dsimp only[Cm];omega)
theorem qa8 {S:Sp}(h:S.may=true):(Jb S).length=148:=J6 S 8 (by omega) (q6x h)
theorem qjz {S:Sp}{slot:Int}(h:Ye S slot=true):swE S slot=0/\swB S slot=Zt (Cm S slot) (Jb S)/\Xb (Cm S slot) (Jb S)=0/\Xg (Cm S slot) (Jb S)=Zt (Cm S slot) (Jb S):=by
 have hm:S.may=true:=by unfold Ye at h;rw[Bool.and_eq_true] at h;exact h.1
 have b:=qa8 hm;unfold swE swB Xb Xg;rw[if_pos h,if_pos h,if_pos (qoj h),if_pos (by omega),if_pos (qoj h),if_pos (by omega)];exact⟨rfl,rfl,rfl,rfl⟩
theorem qwl {S:Sp}{slot:Int}(h:Ye S slot=false):swE S slot=1/\swB S slot=[]:=by
 unfold swE swB;rw[h];exact⟨rfl,rfl⟩
attribute [local go_sem ↓] q23 q6v
theorem q7x (S:Sp)(slot:Int)(hf:S.fine)(w:World)(ht:Tab w) :
  Calls Tryz.prog 136 #[.agg S.vs.toArray,.int .i64 slot] w λe d=>
   ∃Q n' R,e=.returned (.tuple #[.slice Q n' R,.int .i64 (swE S slot)])/\Own d w.1.size 5 Q n' R (swB S slot)/\(Ye S slot=true->∃g,Q=some ⟨g,0,none⟩/\n'=256/\R=256)/\Below w.1.size w d:=by
 have F:=SB.new w S 120;have O:Below w.1.size w (w.alloc (.cells S.vs.toArray 120)):=Qn;have P:=ht.below O ht.1;have I:=F.ld;obtain⟨m,hm⟩:∃m,S.may=m:=⟨_,rfl⟩;go_enter Tryz.func136,Tryz.ntmps136
 go_wp2_with fail
 generalize w.alloc (.cells S.vs.toArray 120)=w1 at F O I P ⊢;refine (qt5 S m hm hf w1).mono ?_;rintro e b ⟨rfl,y⟩;have G:=F.below y F.lt;have E:=O.trans (y.mono O.size);have t2:=P.below y P.1;have a1:=G.ld;have q2:=G.c0;clear F I y P
 cases m
 ·obtain⟨h1,h2⟩:=qwl (S:=S) (slot:=slot) (by unfold Ye;rw[hm];rfl);have A:Ye S slot=false:=by unfold Ye;rw[hm];rfl
  go_wp2;go_ret2;rw[h1,h2,A];exact⟨_,_,_,rfl,q59 _ _ _,λh=>(by cases h),E⟩
 ·go_wp2_with fail
  by_cases u:0<=slot/\slot<=1
  ·have B:Ye S slot=true:=by unfold Ye;rw[hm,decide_eq_true u];rfl
   obtain⟨h1,h2,h3,h4⟩:=qjz B;have T:=Lib.hid h1;have U:=Lib.hid h2;have a3:=Lib.hid B;refine (Rk slot 0 1 true (decide_eq_true u) _).mono ?_;rintro e M ⟨rfl,rfl⟩;go_wp2_with fail
   have W:∀d:World,Below b.1.size b d->d.cell? ⟨w.1.size,0,none⟩=some (.int .i64 S.gen)/\(ldS (.pointer (some ⟨w.1.size,0,none⟩))).run Tryz.prog d=.ok (.agg S.vs.toArray) d/\Below b.1.size b d:=
    λd X=>⟨(X.cell (p:=⟨w.1.size,0,none⟩) G.lt).trans q2,(G.below X G.lt).ld,X⟩
   have BD:Below b.1.size b b.drew:=(Below.refl _ _).drew;have zd:b.1.size<=b.drew.1.size:=Nat.le_refl _;have a2:=q6x hm;clear u h1 h2 a1 B;go_region_held3 (λd=>d.cell? ⟨w.1.size,0,none⟩=some (.int .i64 S.gen)/\(ldS (.pointer (some ⟨w.1.size,0,none⟩))).run Tryz.prog d=.ok (.agg S.vs.toArray) d/\Below b.1.size b d)
    (first|assumption|exact W _ BD|exact W _ f|exact W _ H)
    (first
     |(go_at_call 208;refine (qoi S a2 _).mono ?_;rintro e M ⟨A3,n3,c3,rfl,D,Y⟩;have J:Own M b.1.size 5 A3 n3 c3 _:=D;have f:Below b.1.size b M:=BD.trans (Y.mono zd))
     |(go_at_call 122;refine (q5t (Cm S slot) A3 n3 c3 _ M J.sl (t2.below f t2.1)).mono ?_;rw[h3,h4];rintro e w4 ⟨A4,n4,c4,rfl,K,a0,Z⟩;have H:Below b.1.size b w4:=f.trans (Z.mono (Below.size f)))
     |fail)
   go_wp2;go_ret2;rw[T.out,U.out];exact⟨_,_,_,rfl,(K.less (Below.size f)).less E.size,λ_=>a0 (by first|trivial|rfl),E.trans (H.mono E.size)⟩
  ·have A:Ye S slot=false:=by unfold Ye;rw[hm,decide_eq_false u];rfl
   obtain⟨h1,h2⟩:=qwl A;refine (Rk slot 0 1 false (decide_eq_false u) _).mono ?_;rintro e M ⟨rfl,rfl⟩;go_wp2;go_ret2;rw[h1,h2,A];exact⟨_,_,_,rfl,q59 _ _ _,λh=>(by cases h),E⟩
end
