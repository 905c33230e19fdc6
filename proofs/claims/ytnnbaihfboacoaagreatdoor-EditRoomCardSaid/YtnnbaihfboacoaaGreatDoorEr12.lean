/- Superblocks: the code's body and Write -/
import Derived.Test.YtnnbaihfboacoaaGreatDoorEr11
namespace Go.Proofs.YtnnbaihfboacoaaGreatDoor
open Go Go.RowKit Go.Proofs
set_option maxHeartbeats 4000000
set_option maxRecDepth 100000
section
def ldS (p:Value):Sem Value:=Instr.loadAt 98 p
theorem q1n (p:Value):Instr.loadAt 98 p=ldS p:=rfl
def ldA (p:Value):Sem Value:=Instr.loadAt 96 p
theorem q7c (p:Value):Instr.loadAt 96 p=ldA p:=rfl
theorem SB.ld {w:World}{b:Nat}{S:Sp}(H:SB w b S):(ldS (.pointer (some ⟨b,0,none⟩))).run Tryz.prog w=.ok (.agg S.vs.toArray) w:=Qb4 H
theorem SB.lda {w:World}{b:Nat}{S:Sp}(H:SB w b S):(ldA (.pointer (some ⟨b,3,none⟩))).run Tryz.prog w=.ok (.agg (S.Jk.flatMap Vl.vs).toArray) w:=Qb5 H
attribute [local go_sem ↓] q1n q7c
def Jg (S:Sp):List UInt8:=Zz S 8
theorem qro (S:Sp)(hv:∀j,j<8->(S.at_ j).name.size<=10)(w:World) :
  Calls Tryz.prog 127 #[.agg S.vs.toArray] w λe w'=>∃U Y W,e=.returned (.slice U Y W)/\Own w' w.1.size 5 U Y W (Jg S)/\Below w.1.size w w':=by
 have y:=SB.new w S 98;have K:Below w.1.size w (w.alloc (.cells S.vs.toArray 98)):=Qm;have q1:=y.c1;go_enter Tryz.func127,Tryz.ntmps127
 go_wp2_with fail
 generalize w.alloc (.cells S.vs.toArray 98)=w1 at y K q1 ⊢;refine (q8c none 0 0 [] S.Qb 2 _ (q24 _) (by omega) (by omega) (by omega)).mono ?_;rintro e w2 ⟨A2,n2,c2,rfl,m,a2,B⟩;have I:=y.below B y.lt;have J:=K.trans (B.mono K.size);have q2:=I.c2;clear q1;go_wp2_with fail
 refine (q8c A2 n2 c2 _ S.log 2 _ m.sl (by omega) (by omega) (by omega)).mono ?_;rintro e w3 ⟨A3,n3,c3,rfl,d,a6,D⟩;have H3:=I.below D I.lt;have B3:=J.trans (D.mono J.size);have q3:=H3.lda;have e3:[]++Zc S.Qb (2:Int).toNat++Zc S.log (2:Int).toNat=Zz S 0:=by rw[qbd];rfl
 rw[e3] at d;have d:=d.less J.size;clear q2 y I m;go_wp2_with fail
 go_loopw [3,15] (λb i wr=>∃(k:Nat) (A:Option Addr) (n c:Nat),k<=8/\n<=4+18*k/\b=.slice A n c/\i=.int .i64 (k:Int)/\Own wr w.1.size 5 A n c (Zz S k)/\Below w.1.size w wr) (λ_ i _=>8-(intOf i).toNat)
 case atStart=>exact⟨0,A3,n3,c3,by omega,by omega,rfl,rfl,d,B3⟩
 case round=>
  obtain⟨k,A,n,c,hk,hn,rfl,rfl,own,O⟩:=hrel;by_cases u:k<8
  ·have Q:=qy8 S u;have a1:(0:Int)<=(k:Int):=by omega
   have F:=Lib.hid (qbe S u);have G:=hv k u;obtain⟨x,X⟩:∃x,S.at_ k=x:=⟨_,rfl⟩;rw[X] at Q G F;clear X;go_wp2_with fail
   have M:Below wr.1.size wr (wr.alloc (.cells #[.string x.name,.bool x.ro,.int .i64 x.root,.int .i64 x.next] 95)):=Qm;have H:=own.below M;have f:=O.trans (M.mono O.size);generalize wr.alloc (.cells #[.string x.name,.bool x.ro,.int .i64 x.root,.int .i64 x.next] 95)=wx at M H f ⊢;refine (qn7 x G A n c _ wx H.sl (by omega)).mono ?_;rintro e w5 ⟨A5,Z,c5,rfl,p,T,P⟩;rw[<-F.out] at p;have E:Z<=4+18*(k+1):=by omega
   clear T;go_wp2;exact⟨⟨k+1,A5,Z,c5,by omega,E,rfl,by go_num,p.less f.size,f.trans (P.mono f.size)⟩,by simp[intOf];omega⟩
  ·have R:k=8:=by omega
   rw[R] at own;go_wp2;go_ret;exact⟨_,_,_,rfl,own,O⟩
end
def rdN (l:List UInt8):ByteArray:=⟨((l.drop 1).take (min (gN l 0 1) 10)).toArray⟩
def Iw (l:List UInt8):Vl:=⟨rdN l,decide (gN l 11 1≠0),(gN l 12 2:Int),(gN l 14 4:Int)⟩
theorem qun (l:List UInt8):(rdN l).size<=10:=by
 unfold rdN;show (List.take _ _).toArray.size<=10;rw[List.size_toArray,List.length_take];omega
theorem D7 {l0:List UInt8}(p m n:Nat){A:Option Addr}{c:Nat}{w:World}(h:Sl w A n c (l0.drop p))(y:Int)(G:y=(m:Int))(h1:1<=m)(H:m<=7)(hn:m<=n)(F:n<=100000) :
  Calls Tryz.prog 149 #[.slice A n c,.int .i64 y] w λe u=>∃d b f,e=.returned (.tuple #[.int .i64 (gN l0 p m),.slice d b f,.int .i64 0])/\Own u w.1.size 5 d b f (l0.drop (p+m))/\(b+m<=n/\n<=b+m)/\Below w.1.size w u:=by
 refine (q6w A n c _ y w h (by omega) (by omega) (by omega) (by omega)).mono ?_;rintro e u ⟨d,b,f,rfl,own,B⟩;subst G;rw[Int.toNat_natCast,List.drop_drop] at own;rw[Int.toNat_natCast];have D:=own.len;have E:=h.len;rw[List.length_drop] at D E;exact⟨d,b,f,rfl,own,⟨by omega,by omega⟩,B⟩
theorem Own.some_ {w:World}{base n c:Nat}{e:TypeId}{A:Option Addr}{l:List UInt8}(h:Own w base e A n c l)(h0:0<n):∃g,A=some ⟨g,0,none⟩:=by
 rcases h.2 with⟨b,rfl⟩|⟨g,cap,d,b,_⟩
 ·omega
 ·injection b with f;exact⟨g,f⟩
theorem VB.set0 {w:World}{b:Nat}{v:Vl}(H:VB w b v)(s:ByteArray):VB (w.setCell ⟨b,0,none⟩ (.string s)) b ⟨s,v.ro,v.root,v.next⟩:=by
 obtain⟨t,H⟩:=H;exact⟨t,heap_setCell_same w b 0 _ t _ H⟩
theorem VB.set1 {w:World}{b:Nat}{v:Vl}(H:VB w b v)(x:Bool):VB (w.setCell ⟨b,1,none⟩ (.bool x)) b ⟨v.name,x,v.root,v.next⟩:=by
 obtain⟨t,H⟩:=H;exact⟨t,heap_setCell_same w b 1 _ t _ H⟩
theorem VB.set2 {w:World}{b:Nat}{v:Vl}(H:VB w b v)(x:Int):VB (w.setCell ⟨b,2,none⟩ (.int .i64 x)) b ⟨v.name,v.ro,x,v.next⟩:=by
 obtain⟨t,H⟩:=H;exact⟨t,heap_setCell_same w b 2 _ t _ H⟩
theorem VB.Qcr {w:World}{b:Nat}{v:Vl}(H:VB w b v)(x:Int):VB (w.setCell ⟨b,3,none⟩ (.int .i64 x)) b ⟨v.name,v.ro,v.root,x⟩:=by
 obtain⟨t,H⟩:=H;exact⟨t,heap_setCell_same w b 3 _ t _ H⟩
theorem q8d {w:World}{b base n c j:Nat}{e:TypeId}{A:Option Addr}{l:List UInt8}(own:Own w base e A n c l)(d:b<base)(x:Value):Own (w.setCell ⟨b,j,none⟩ x) base e A n c l:=
 own.turn λg f _=>Below.heap_setCell _ _ _ _ (by show g≠b;omega)
theorem q3x (w:World)(b j:Nat)(x:Value):Below b w (w.setCell ⟨b,j,none⟩ x):=(Below.refl _ w).setCell (p:=⟨b,j,none⟩) (Nat.le_refl _) _
theorem q23 {f:Func}{p a:Tmp}{ty:TypeId}{d:Addr}{v:Value}{P:Program}{w:World}{b:Array Value}(h:f.results=#[.cell p ty,.tmp a])(u:b.getD p undef=.pointer (some d))(m:(loadVar ty d).run P w=.ok v w) :
  (results f b).run P w=.ok (.tuple #[v,b.getD a undef]) w:=by
 have e:(results f b).run P w=((asAddr (b.getD p undef)).run P w).andThen λd y=>((loadVar ty d).run P y).andThen λv A=>.ok (.tuple #[v,b.getD a undef]) A:=by
  simp only[results,h];simp[Sem.run_bind,Result.andThen]
 rw[e,u];simp[asAddr,m]
theorem qj0 (A:Option Addr)(n c:Nat)(l:List UInt8)(w:World)(hs:Sl w A n c l)(hn:18<=n)(d9:n<=1000) :
  Calls Tryz.prog 164 #[.slice A n c] w λe w'=>
   ∃A' n' c',e=.returned (.tuple #[(Iw l).v,.slice A' n' c'])/\Own w' w.1.size 5 A' n' c' (l.drop 18)/\(n'+18<=n/\n<=n'+18)/\Below w.1.size w w':=by
 have Z1:VB (w.alloc (.cells #[.string ⟨#[]⟩,.bool false,.int .i64 0,.int .i64 0] 95)) w.1.size Vl.zero:=VB.new w Vl.zero _;have b1:Below w.1.size w (w.alloc (.cells #[.string ⟨#[]⟩,.bool false,.int .i64 0,.int .i64 0] 95)):=Qm;have z1:(w.alloc (.cells #[.string ⟨#[]⟩,.bool false,.int .i64 0,.int .i64 0] 95)).1.size=w.1.size+1:=by simp
 go_enter Tryz.func164,Tryz.ntmps164
 go_wp2_with fail
 generalize w.alloc (.cells #[.string ⟨#[]⟩,.bool false,.int .i64 0,.int .i64 0] 95)=R at Z1 b1 z1 ⊢;rw[<-z1];have V2:VB (R.alloc (.cells #[.string ⟨#[]⟩,.bool false,.int .i64 0,.int .i64 0] 95)) R.1.size Vl.zero:=VB.new R Vl.zero _;have b2:Below R.1.size R (R.alloc (.cells #[.string ⟨#[]⟩,.bool false,.int .i64 0,.int .i64 0] 95)):=Qm;generalize R.alloc (.cells #[.string ⟨#[]⟩,.bool false,.int .i64 0,.int .i64 0] 95)=w2 at V2 b2 ⊢;have Z2:=Z1.below b2 (by omega);have B2:=b1.trans (b2.mono b1.size);obtain⟨d,a7⟩:∃d,R.1.size=d:=⟨_,rfl⟩;rw[a7] at V2 ⊢;have e5:w.1.size<d:=by omega
 clear Z1 b1 b2 z1 a7;refine (D7 (l0:=l) 0 1 n (hs.below B2) 1 rfl (by omega) (by omega) (by omega) (by omega)).mono ?_;rintro e f ⟨A3,n3,c3,rfl,b,e0,F⟩;have V3:=V2.below F V2.lt;have Z3:=Z2.below F Z2.lt;have B3:=B2.trans (F.mono B2.size);have b4:=V2.lt;obtain⟨m,hm⟩:∃m,gN l 0 1=m:=⟨_,rfl⟩;have u:=Lib.hid (show rdN l=⟨((l.drop 1).take (min m 10)).toArray⟩ by unfold rdN;rw[hm]);rw[hm];clear hm Z2 V2;have v3:=V3.c0;have f3:=V3.fz 0;have b:Own f w2.1.size 5 A3 n3 c3 (l.drop 1):=b;have d8:=b.sl.cap;have d3:=b.sl.max;unfold maxLen at d3;obtain⟨g3,d4⟩:=b.some_ (by omega);subst d4;obtain⟨nm,J⟩:∃nm,rdN l=nm:=⟨_,rfl⟩;have c6:=Lib.hid J;have b6:m<=10->(convert 31 9 (.slice (some ⟨g3,0,none⟩) m c3)).run Tryz.prog f=.ok (.string nm) f:=λh=>by
  have:=Pg (b.sl.take (k:=m) (by omega));rw[this,<-J,u.out,Nat.min_eq_left h]
 have b7:10<m->(convert 31 9 (.slice (some ⟨g3,0,none⟩) 10 c3)).run Tryz.prog f=.ok (.string nm) f:=λh=>by
  have:=Pg (b.sl.take (k:=10) (by omega));rw[this,<-J,u.out,Nat.min_eq_right (by omega)]
 have E:=b.sl.drop (k:=10) (by omega);rw[if_neg (by omega),List.drop_drop] at E;have E:Sl f (some ⟨g3,10,none⟩) (n3-10) (c3-10) (l.drop 11):=E;have i1:(10:Nat)<=c3:=by omega
 have i2:¬c3=10:=by omega
 clear J u;rcases (by omega:m<=10\/10<m) with hm|hm
 all_goals
  have i3:((m:Int)<=10)=(m<=10):=by rw[eq_iff_iff];omega
  first|(have K:=b6 hm;have i4:(m:Int)<=10:=by omega)|(have K:=b7 hm;have i4:¬(m:Int)<=10:=by omega)
  have i5:(0:Int)<=(m:Int):=by omega
  have i6:m<=10->m<=c3:=by omega
  clear b6 b7 i3;have M:=q8d b (show d<w2.1.size from b4) (j:=0) (.string nm);have T:=q3x f d 0 (.string nm);have X:Sl (f.setCell ⟨d,0,none⟩ (.string nm)) (some ⟨g3,10,none⟩) (n3-10) (c3-10) (l.drop 11):=by
   have:=M.sl.drop (k:=10) (by omega);rw[if_neg (by omega),List.drop_drop] at this;exact this
  have V4:=V3.set0 nm;have Z4:=Z3.below T (by omega);have B4:=B3.trans (T.mono (by omega));have z4:(f.setCell ⟨d,0,none⟩ (.string nm)).1.size=f.1.size:=World.size_setCell ..;go_wp2_with fail
  clear K M T E v3 f3 V3 Z3 B3 b;have e6:=F.size;have a8:d<(f.setCell ⟨d,0,none⟩ (.string nm)).1.size:=by omega
  generalize f.setCell ⟨d,0,none⟩ (.string nm)=w4 at X V4 Z4 B4 z4 a8 ⊢;refine (D7 (l0:=l) 11 1 (n3-10) X 1 rfl (by omega) (by omega) (by omega) (by omega)).mono ?_;rintro e w5 ⟨A5,n5,c5,rfl,O,e1,G⟩;have V5:=V4.below G V4.lt;have Z5:=Z4.below G Z4.lt;have B5:=B4.trans (G.mono B4.size);obtain⟨mk,Y⟩:∃mk,gN l 11 1=mk:=⟨_,rfl⟩;rw[Y];have v5:=V5.c1;have f5:=V5.fz 1;obtain⟨ro,Z⟩:∃ro,decide (mk≠0)=ro:=⟨_,rfl⟩;have b5:((mk:Int)!=0)=ro:=by rw[<-Z,Bool.eq_iff_iff];simp
  have c8:=Lib.hid (show decide (gN l 11 1≠0)=ro by rw[Y];exact Z);have y:=q8d O (show d<w4.1.size from a8) (j:=1) (.bool ro);have U:=q3x w5 d 1 (.bool ro);have V6:=V5.set1 ro;have Z6:=Z5.below U (by omega);have B6:=B5.trans (U.mono (by omega));have z6:(w5.setCell ⟨d,1,none⟩ (.bool ro)).1.size=w5.1.size:=World.size_setCell ..;clear Z Y;go_wp2_with fail
  clear O U v5 f5 V5 Z5 B5 b5 X V4 Z4 B4 z4;have e7:=G.size;have b0:d<(w5.setCell ⟨d,1,none⟩ (.bool ro)).1.size:=by omega
  have d6:w4.1.size<=(w5.setCell ⟨d,1,none⟩ (.bool ro)).1.size:=by omega
  generalize w5.setCell ⟨d,1,none⟩ (.bool ro)=w6 at y V6 Z6 B6 z6 b0 d6 ⊢;refine (D7 (l0:=l) 12 2 n5 y.sl 2 rfl (by omega) (by omega) (by omega) (by omega)).mono ?_;rintro e w7 ⟨A7,n7,c7,rfl,P,e2,H⟩;have V7:=V6.below H V6.lt;have Z7:=Z6.below H Z6.lt;have B7:=B6.trans (H.mono B6.size);have v7:=V7.c2;have f7:=V7.fz 2;have B:=q8d P (show d<w6.1.size from b0) (j:=2) (.int .i64 (gN l 12 2:Int));have W:=q3x w7 d 2 (.int .i64 (gN l 12 2:Int));have V8:=V7.set2 (gN l 12 2:Int);have Z8:=Z7.below W (by omega);have B8:=B7.trans (W.mono (by omega));have z8:(w7.setCell ⟨d,2,none⟩ (.int .i64 (gN l 12 2:Int))).1.size=w7.1.size:=World.size_setCell ..;go_wp2_with fail
  clear P W v7 f7 V7 Z7 B7 y V6 Z6 B6 z6;have e8:=H.size;have b3:d<(w7.setCell ⟨d,2,none⟩ (.int .i64 (gN l 12 2:Int))).1.size:=by omega
  generalize w7.setCell ⟨d,2,none⟩ (.int .i64 (gN l 12 2:Int))=w8 at B V8 Z8 B8 z8 b3 ⊢;refine (D7 (l0:=l) 14 4 n7 B.sl 4 rfl (by omega) (by omega) (by omega) (by omega)).mono ?_;rintro e w9 ⟨A9,n9,c9,rfl,Q,e3,I⟩;have V9:=V8.below I V8.lt;have Z9:=Z8.below I Z8.lt;have B9:=B8.trans (I.mono B8.size);have v9:=V9.c3;have f9:=V9.fz 3;have a1:=q8d Q (show d<w8.1.size from b3) (j:=3) (.int .i64 (gN l 14 4:Int));have p:=q3x w9 d 3 (.int .i64 (gN l 14 4:Int));have D:=V9.Qcr (gN l 14 4:Int);have d2:=Z9.below p (by omega);have b8:=B9.trans (p.mono (by omega));have u0:=D.c0;have u1:=D.c1;have u2:=D.c2;have u3:=D.c3;have e9:=I.size;have e4:w.1.size<w8.1.size:=by omega
  clear Q p V9 Z9 B9 B V8 Z8 B8 z8;go_wp2_with (first
   |(refine qiq rfl _ _ rfl w.1.size rfl ⟨nm,ro,(gN l 12 2:Int),(gN l 14 4:Int)⟩ Vl.zero rfl d2 ?_;intro d7 d1 a6 d0)
   |fail)
  have a2:=a1.turn (w':=d7) λg hg hl=>d0.block g hl (by show ¬g=w.1.size;omega)
  have b9:=b8.trans (a6 _ (Nat.le_refl _));have d5:Iw l=⟨nm,ro,(gN l 12 2:Int),(gN l 14 4:Int)⟩:=by unfold Iw;rw[c6.out,c8.out]
  refine bodyPost_ret (q23 Tryz.results164 rfl (qx1 d1)) rfl ?_;rw[d5];exact⟨A9,n9,c9,rfl,a2.less (by omega),⟨by omega,by omega⟩,b9⟩
section
def Vw (g:Int)(l:List UInt8)(k:Nat):Sp:=⟨g,(gN l 0 2:Int),(gN l 2 2:Int),(List.range 8).map (λi=>if i<k then Iw (l.drop (4+18*i)) else Vl.zero),by simp⟩
def rdS (g:Int)(l:List UInt8):Sp:=Vw g l 8
def sp0 (g a b:Int):Sp:=⟨g,a,b,List.replicate 8 Vl.zero,rfl⟩
theorem qn8 (g:Int)(l:List UInt8):Vw g l 0=sp0 g (gN l 0 2:Int) (gN l 2 2:Int):=rfl
theorem qn9 (g:Int)(l:List UInt8){k:Nat}(_:k<8):(Vw g l k).Ph k (Iw (l.drop (4+18*k)))=Vw g l (k+1):=by
 refine Sp.ext' rfl rfl rfl ?_;show (((List.range 8).map (λi=>if i<k then Iw (l.drop (4+18*i)) else Vl.zero)).set k (Iw (l.drop (4+18*k))))=(List.range 8).map (λi=>if i<k+1 then Iw (l.drop (4+18*i)) else Vl.zero);refine List.ext_getElem (by simp) λi h1 h2=>?_
 have d:i<8:=by simpa using h2
 rw[List.getElem_set];by_cases h:k=i
 ·subst h;simp
 ·rw[if_neg h];simp only[List.getElem_map,List.getElem_range];by_cases b:i<k
  ·rw[if_pos b,if_pos (by omega)]
  ·rw[if_neg b,if_neg (by omega)]
theorem quo (g:Int)(l:List UInt8)(k:Nat){i:Nat}(hi:i<8):(Vw g l k).at_ i=if i<k then Iw (l.drop (4+18*i)) else Vl.zero:=by
 have h:=(Vw g l k).get hi;have h2:(Vw g l k).Jk[i]?=some (if i<k then Iw (l.drop (4+18*i)) else Vl.zero):=by
  show ((List.range 8).map (λi=>if i<k then Iw (l.drop (4+18*i)) else Vl.zero))[i]?=_;rw[List.getElem?_map,List.getElem?_range hi];rfl
 rw[h] at h2;exact Option.some.inj h2
theorem qup (g:Int)(l:List UInt8):(rdS g l).fine:=λk b=>by
 unfold rdS;rw[quo g l 8 b,if_pos b];have:=qun (l.drop (4+18*k));unfold maxLen;show (rdN _).size<=_;omega
theorem SB.set1 {w:World}{b:Nat}{S:Sp}(H:SB w b S)(x:Int):SB (w.setCell ⟨b,1,none⟩ (.int .i64 x)) b ⟨S.gen,x,S.log,S.Jk,S.len⟩:=by
 obtain⟨t,H⟩:=H;exact⟨t,heap_setCell_same w b 1 _ t _ H⟩
theorem SB.set2 {w:World}{b:Nat}{S:Sp}(H:SB w b S)(x:Int):SB (w.setCell ⟨b,2,none⟩ (.int .i64 x)) b ⟨S.gen,S.Qb,x,S.Jk,S.len⟩:=by
 obtain⟨t,H⟩:=H;exact⟨t,heap_setCell_same w b 2 _ t _ H⟩
theorem qj1 {e:Array Oper}{d:List Oper}{o:Oper}{a:Act}{w:World}{Q:Exit->Act->World->Prop}(u:o.guard=none)(x y:Operand)(m:o.op=Op.store 95 x y)
  (b k:Nat) (A:k<8) (D:a.eval x=.pointer (some ⟨b,3+k*4,none⟩)) (v:Vl) (S:Sp) (E:a.eval y=v.v) (H:SB w b S)
  (p:∀f,SB f b (S.Ph k v)->(∀B,B<=b->Below B w f)->Turn (λk=>k=b) w f->wpList Tryz.prog e Q d (a.put o.dst undef) f):wpList Tryz.prog e Q (o::d) a w:=
 qip u x y m b k A (by rw[D,Nat.mul_comm]) v S E H p
def alS (h:Bool)(old:Value):Sem Value:=Instr.alloc 98 h old
theorem q3f (h:Bool)(old:Value):Instr.alloc 98 h old=alS h old:=rfl
def bdS (parts:Array (Nat × Value)):Sem Value:=Instr.build 98 parts
theorem q9e (parts:Array (Nat × Value)):Instr.build 98 parts=bdS parts:=rfl
theorem qbf (h:Bool)(w:World):(alS h (.tuple #[])).run Tryz.prog w=.ok (.pointer (some ⟨w.1.size,0,none⟩)) (w.alloc (.cells Sp.zero.vs.toArray 98)):=by
 cases h
 ·show (Instr.alloc 98 false (.tuple #[])).run Tryz.prog w=_;kernel_rfl
 ·show (Instr.alloc 98 true (.tuple #[])).run Tryz.prog w=_;kernel_rfl
theorem ql7 (w:World):(bdS #[]).run Tryz.prog w=.ok (.agg Sp.zero.vs.toArray) w:=by
 show (Instr.build 98 #[]).run Tryz.prog w=_;kernel_rfl
theorem qx6 (g:Int)(w:World):(bdS #[(0,.int .i64 g)]).run Tryz.prog w=.ok (.agg (sp0 g 0 0).vs.toArray) w:=by
 show (Instr.build 98 #[(0,.int .i64 g)]).run Tryz.prog w=_;kernel_rfl
attribute [local go_sem ↓] q1n q7c q3f q9e
theorem qew (g:Int)(A:Option Addr)(n c:Nat)(l:List UInt8)(w:World)(hs:Sl w A n c l)(hn:148<=n)(d6:n<=1000) :
  Calls Tryz.prog 132 #[.int .i64 g,.slice A n c] w λe w'=>e=.returned (.agg (rdS g l).vs.toArray)/\Below w.1.size w w':=by
 have b4:=qbf;have b5:=qx6 g;have Z1:=SB.new w Sp.zero 98;have b1:Below w.1.size w (w.alloc (.cells Sp.zero.vs.toArray 98)):=Qm;have z1:(w.alloc (.cells Sp.zero.vs.toArray 98)).1.size=w.1.size+1:=by simp
 have H2:=SB.new (w.alloc (.cells Sp.zero.vs.toArray 98)) Sp.zero 98;rw[z1] at H2;go_enter Tryz.func132,Tryz.ntmps132
 go_wp2_with (first
  |(refine Ec rfl _ _ rfl (w.1.size+1) rfl (sp0 g 0 0) Sp.zero rfl H2 ?_;intro w3 R X T3)
  |fail)
 have b2:Below (w.alloc (.cells Sp.zero.vs.toArray 98)).1.size (w.alloc (.cells Sp.zero.vs.toArray 98)) ((w.alloc (.cells Sp.zero.vs.toArray 98)).alloc (.cells Sp.zero.vs.toArray 98)):=Qm;rw[z1] at b2;have b3:=b2.trans (X _ (Nat.le_refl _));have Z3:=Z1.below b3 (by omega);have B3:=b1.trans (b3.mono (by omega));obtain⟨d,Y⟩:∃d,w.1.size+1=d:=⟨_,rfl⟩;rw[Y] at R ⊢;have c9:w.1.size<d:=by omega
 have a7:=hs.below B3;clear Z1 b1 z1 H2 X T3 b2 b3 Y b4 b5;refine (D7 (l0:=l) 0 2 n a7 2 rfl (by omega) (by omega) (by omega) (by omega)).mono ?_;rintro e w4 ⟨A4,n4,c4,rfl,E,b7,f⟩;have H4:=R.below f R.lt;have Z4:=Z3.below f Z3.lt;have B4:=B3.trans (f.mono B3.size);have q4:=H4.c1;have f4:=H4.fz 1;obtain⟨I,O⟩:∃I:Int,(gN l 0 2:Int)=I:=⟨_,rfl⟩;rw[O];have F:=q8d E (show d<w3.1.size from R.lt) (j:=1) (.int .i64 I);have J:=q3x w4 d 1 (.int .i64 I);have T:=H4.set1 I;have Z5:=Z4.below J (by omega);have B5:=B4.trans (J.mono (by omega));have z5:(w4.setCell ⟨d,1,none⟩ (.int .i64 I)).1.size=w4.1.size:=World.size_setCell ..;go_wp2_with fail
 clear E J q4 f4 H4 Z4 B4 R Z3 B3 a7;have d0:=f.size;generalize w4.setCell ⟨d,1,none⟩ (.int .i64 I)=w5 at F T Z5 B5 z5 ⊢;refine (D7 (l0:=l) 2 2 n4 F.sl 2 rfl (by omega) (by omega) (by omega) (by omega)).mono ?_;rintro e Q ⟨A6,n6,c6,rfl,G,b8,D⟩;have H6:=T.below D T.lt;have Z6:=Z5.below D Z5.lt;have B6:=B5.trans (D.mono B5.size);have q6:=H6.c2;have f6:=H6.fz 2;obtain⟨B,P⟩:∃B:Int,(gN l 2 2:Int)=B:=⟨_,rfl⟩;rw[P];have u:=q8d G (show d<w5.1.size from T.lt) (j:=2) (.int .i64 B);have K:=q3x Q d 2 (.int .i64 B);have U:=H6.set2 B;have Z7:=Z6.below K (by omega);have B7:=B6.trans (K.mono (by omega));have z7:(Q.setCell ⟨d,2,none⟩ (.int .i64 B)).1.size=Q.1.size:=World.size_setCell ..;go_wp2_with fail
 clear G K q6 f6 H6 Z6 B6 T Z5 B5;have d7:n6+4<=n/\n<=n6+4:=by omega
 have e7:∀H:Sp,SB (Q.setCell ⟨d,2,none⟩ (.int .i64 B)) d H->H=sp0 g I B->SB (Q.setCell ⟨d,2,none⟩ (.int .i64 B)) d (Vw g l 0):=λH h e=>by
  rw[qn8,O,P,<-e];exact h
 have U:=e7 _ U rfl;generalize Q.setCell ⟨d,2,none⟩ (.int .i64 B)=w7 at u U Z7 B7 z7 e7 ⊢;have b0:Sl w7 A6 n6 c6 (l.drop (4+18*0)):=u.sl;clear e7 u D f O P z7 z5 b8 b7 d0;go_loopw [1,23] (λb i wr=>∃(k m:Nat) (A:Option Addr) (c:Nat),k<=8/\n<=m+4+18*k/\m<=n/\b=.slice A m c/\i=.int .i64 (k:Int)/\Sl wr A m c (l.drop (4+18*k))/\SB wr d (Vw g l k)/\SB wr w.1.size Sp.zero/\Below w.1.size w wr) (λ_ i _=>8-(intOf i).toNat)
 case atStart=>exact⟨0,n6,A6,c6,by omega,by omega,by omega,rfl,rfl,b0,U,Z7,B7⟩
 case round=>
  clear b0 U Z7 B7;obtain⟨k,m,A,c,hk,d4,d5,rfl,rfl,sl,H,Z,hB⟩:=hrel;by_cases a1:k<8
  ·have d1:(0:Int)<=(k:Int):=by omega
   have a6:=Lib.hid (qn9 g l a1);go_wp2_with fail
   refine (qj0 A m c _ wr sl (by omega) (by omega)).mono ?_;rintro e w8 ⟨A8,n8,c8,rfl,y,b9,M⟩;have H8:=H.below M H.lt;have Z8:=Z.below M Z.lt;have B8:=hB.trans (M.mono hB.size);rw[List.drop_drop,show 4+18*k+18=4+18*(k+1) by omega] at y;have d3:=H.lt;have c7:n<=n8+4+18*(k+1):=by omega
   have a2:n8<=n:=by omega
   clear H Z hB sl b9;obtain⟨v,hv⟩:∃v,Iw (l.drop (4+18*k))=v:=⟨_,rfl⟩;have W:=Lib.hid (show (Vw g l k).Ph k v=Vw g l (k+1) by rw[<-hv];exact a6.out);rw[hv];clear hv a6;go_wp2_with (first
    |(refine qj1 rfl _ _ rfl d k a1 rfl v (Vw g l k) rfl H8 ?_;intro w9 H9 p T9)
    |fail)
   rw[W.out] at H9;have a8:=y.turn (w':=w9) λq hq hl=>T9.block q hl (by show ¬q=d;omega)
   have Z9:=Z8.below (p d (Nat.le_refl _)) c9;have B9:=B8.trans (p _ (by omega));clear W H8 Z8 B8 y T9 p;go_wp2;exact⟨⟨k+1,n8,A8,c8,by omega,c7,a2,rfl,by go_num,a8.sl,H9,Z9,B9⟩,by simp[intOf];omega⟩
  ·have b6:k=8:=by omega
   subst b6;have H:SB wr d (rdS g l):=H;have d2:=H.ld;go_wp2_with (first
    |(refine Ec rfl _ _ rfl w.1.size rfl (rdS g l) Sp.zero rfl Z ?_;intro w9 H9 p T9)
    |fail)
   refine bodyPost_ret (q2r Tryz.results132 rfl (q4f H9)) rfl ?_;exact⟨rfl,hB.trans (p _ (Nat.le_refl _))⟩
end
section
def Dj (S:Sp)(slot:Int):Hd:=⟨1,slot,0,0,S.gen⟩
def Xq (S:Sp)(slot:Int):Bool:=S.may&&decide (0<=slot/\slot<=1)
def swE (S:Sp)(slot:Int):Int:=if Xq S slot=true then 0 else 1
def swB (S:Sp)(slot:Int):List UInt8:=if Xq S slot=true then Zr (Dj S slot) (Jg S) else []
theorem q12 {S:Sp}(h:S.may=true):(1<=S.gen/\S.gen<=1099511627775/\32<=S.Qb/\S.Qb<=2048/\0<=S.log/\S.log<=S.Qb-1)/\∀j,j<8->S.ok1 j=true:=by
 unfold Sp.may at h;rw[Bool.and_eq_true] at h;exact⟨of_decide_eq_true h.1,λj b=>List.all_eq_true.1 h.2 j (List.mem_range.2 b)⟩
theorem ql8 {s:ByteArray}(h:Dn s=true):1<=s.size/\s.size<=10:=by
 unfold Dn at h;rw[Bool.and_eq_true] at h;exact of_decide_eq_true h.2
theorem qh9 {S:Sp}{j:Nat}(h:S.ok1 j=true):S.at_ j=Vl.zero\/(Dn (S.at_ j).name=true/\(0<=(S.at_ j).root/\(S.at_ j).root<=S.Qb-1)/\(2<=(S.at_ j).next/\(S.at_ j).next<=2147483647)):=by
 unfold Sp.ok1 at h;rw[Bool.or_eq_true] at h;rcases h with h|h
 ·exact .inl ((Vl.same_iff _ _).1 h)
 ·rw[Bool.and_eq_true] at h;have h:=h.1;unfold Vl.ok at h;rw[Bool.and_eq_true,Bool.and_eq_true] at h;exact .inr ⟨h.1,of_decide_eq_true h.2.1,of_decide_eq_true h.2.2⟩
theorem q7d {S:Sp}(h:S.may=true):∀j,j<8->(S.at_ j).name.size<=10:=λj b=>by
 rcases qh9 ((q12 h).2 j b) with e|⟨h,_⟩
 ·rw[e];show 0<=10;omega
 ·exact (ql8 h).2
theorem qrp {S:Sp}{slot:Int}(h:Xq S slot=true):(Dj S slot).ok=true:=by
 unfold Xq at h;rw[Bool.and_eq_true] at h;have h1:=(q12 h.1).1;have h2:=of_decide_eq_true h.2;refine decide_eq_true ⟨⟨?_,?_⟩,⟨?_,?_⟩,⟨?_,?_⟩,⟨?_,?_⟩,?_,?_⟩<;>(dsimp only[Dj];omega)
theorem q7e {S:Sp}(h:S.may=true):(Jg S).length=148:=Xa S 8 (by omega) (q7d h)
theorem ql9 {S:Sp}{slot:Int}(h:Xq S slot=true):swE S slot=0/\swB S slot=Zr (Dj S slot) (Jg S)/\Xi (Dj S slot) (Jg S)=0/\Xo (Dj S slot) (Jg S)=Zr (Dj S slot) (Jg S):=by
 have hm:S.may=true:=by unfold Xq at h;rw[Bool.and_eq_true] at h;exact h.1
 have b:=q7e hm;unfold swE swB Xi Xo;rw[if_pos h,if_pos h,if_pos (qrp h),if_pos (by omega),if_pos (qrp h),if_pos (by omega)];exact⟨rfl,rfl,rfl,rfl⟩
theorem qx7 {S:Sp}{slot:Int}(h:Xq S slot=false):swE S slot=1/\swB S slot=[]:=by
 unfold swE swB;rw[h];exact⟨rfl,rfl⟩
attribute [local go_sem ↓] q1n q7c
theorem q8e (S:Sp)(slot:Int)(hf:S.fine)(w:World)(ht:Tab w) :
  Calls Tryz.prog 87 #[.agg S.vs.toArray,.int .i64 slot] w λe d=>
   ∃Q n' R,e=.returned (.tuple #[.slice Q n' R,.int .i64 (swE S slot)])/\Own d w.1.size 5 Q n' R (swB S slot)/\(Xq S slot=true->∃g,Q=some ⟨g,0,none⟩/\n'=256/\R=256)/\Below w.1.size w d:=by
 have F:=SB.new w S 98;have O:Below w.1.size w (w.alloc (.cells S.vs.toArray 98)):=Qm;have P:=ht.below O ht.1;have I:=F.ld;obtain⟨m,hm⟩:∃m,S.may=m:=⟨_,rfl⟩;go_enter Tryz.func87,Tryz.ntmps87
 go_wp2_with fail
 generalize w.alloc (.cells S.vs.toArray 98)=w1 at F O I P ⊢;refine (ql6 S m hm hf w1).mono ?_;rintro e b ⟨rfl,y⟩;have G:=F.below y F.lt;have E:=O.trans (y.mono O.size);have t2:=P.below y P.1;have a2:=G.ld;have q2:=G.c0;clear F I y P
 cases m
 ·obtain⟨h1,h2⟩:=qx7 (S:=S) (slot:=slot) (by unfold Xq;rw[hm];rfl);have A:Xq S slot=false:=by unfold Xq;rw[hm];rfl
  go_wp2;go_ret2;rw[h1,h2,A];exact⟨_,_,_,rfl,q55 _ _ _,λh=>(by cases h),E⟩
 ·go_wp2_with fail
  by_cases u:0<=slot/\slot<=1
  ·have B:Xq S slot=true:=by unfold Xq;rw[hm,decide_eq_true u];rfl
   obtain⟨h1,h2,h3,h4⟩:=ql9 B;have T:=Lib.hid h1;have U:=Lib.hid h2;have a7:=Lib.hid B;refine (P7 slot 0 1 true (decide_eq_true u) _).mono ?_;rintro e M ⟨rfl,rfl⟩;go_wp2_with fail
   have W:∀d:World,Below b.1.size b d->d.cell? ⟨w.1.size,0,none⟩=some (.int .i64 S.gen)/\(ldS (.pointer (some ⟨w.1.size,0,none⟩))).run Tryz.prog d=.ok (.agg S.vs.toArray) d/\Below b.1.size b d:=
    λd X=>⟨(X.cell (p:=⟨w.1.size,0,none⟩) G.lt).trans q2,(G.below X G.lt).ld,X⟩
   have BD:Below b.1.size b b.drew:=(Below.refl _ _).drew;have zd:b.1.size<=b.drew.1.size:=Nat.le_refl _;have a6:=q7d hm;clear u h1 h2 a2 B;go_region_held3 (λd=>d.cell? ⟨w.1.size,0,none⟩=some (.int .i64 S.gen)/\(ldS (.pointer (some ⟨w.1.size,0,none⟩))).run Tryz.prog d=.ok (.agg S.vs.toArray) d/\Below b.1.size b d)
    (first|assumption|exact W _ BD|exact W _ f|exact W _ H)
    (first
     |(go_at_call 127;refine (qro S a6 _).mono ?_;rintro e M ⟨A3,n3,c3,rfl,D,Y⟩;have J:Own M b.1.size 5 A3 n3 c3 _:=D;have f:Below b.1.size b M:=BD.trans (Y.mono zd))
     |(go_at_call 84;refine (q5u (Dj S slot) A3 n3 c3 _ M J.sl (t2.below f t2.1)).mono ?_;rw[h3,h4];rintro e w4 ⟨A4,n4,c4,rfl,K,a1,Z⟩;have H:Below b.1.size b w4:=f.trans (Z.mono (Below.size f)))
     |fail)
   go_wp2;go_ret2;rw[T.out,U.out];exact⟨_,_,_,rfl,(K.less (Below.size f)).less E.size,λ_=>a1 (by first|trivial|rfl),E.trans (H.mono E.size)⟩
  ·have A:Xq S slot=false:=by unfold Xq;rw[hm,decide_eq_false u];rfl
   obtain⟨h1,h2⟩:=qx7 A;refine (P7 slot 0 1 false (decide_eq_false u) _).mono ?_;rintro e M ⟨rfl,rfl⟩;go_wp2;go_ret2;rw[h1,h2,A];exact⟨_,_,_,rfl,q55 _ _ _,λh=>(by cases h),E⟩
end
