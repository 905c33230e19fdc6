/- Superblocks: the code's body and Write -/
import Derived.Test.YthkfkhejjmhomaaGreatDoorDb12
namespace Go.Proofs.YthkfkhejjmhomaaGreatDoor
open Go Go.RowKit Go.Proofs
set_option maxHeartbeats 4000000
set_option maxRecDepth 100000
section
def ldS (p:Value):Sem Value:=Instr.loadAt 120 p
theorem q1n (p:Value):Instr.loadAt 120 p=ldS p:=rfl
def ldA (p:Value):Sem Value:=Instr.loadAt 118 p
theorem q6c (p:Value):Instr.loadAt 118 p=ldA p:=rfl
theorem SB.ld {w:World}{b:Nat}{S:Sp}(H:SB w b S):(ldS (.pointer (some ⟨b,0,none⟩))).run Tryz.prog w=.ok (.agg S.vs.toArray) w:=Qb2 H
theorem SB.lda {w:World}{b:Nat}{S:Sp}(H:SB w b S):(ldA (.pointer (some ⟨b,3,none⟩))).run Tryz.prog w=.ok (.agg (S.Jo.flatMap Vl.vs).toArray) w:=Qb3 H
attribute [local go_sem ↓] q1n q6c
def Ja (S:Sp):List UInt8:=Zq S 8
theorem qnp (S:Sp)(hv:∀j,j<8->(S.at_ j).name.size<=10)(w:World) :
  Calls Tryz.prog 208 #[.agg S.vs.toArray] w λe w'=>∃U Y W,e=.returned (.slice U Y W)/\Own w' w.1.size 5 U Y W (Ja S)/\Below w.1.size w w':=by
 have y:=SB.new w S 120;have K:Below w.1.size w (w.alloc (.cells S.vs.toArray 120)):=Qk;have q1:=y.c1;go_enter Tryz.func208,Tryz.ntmps208
 go_wp2_with fail
 generalize w.alloc (.cells S.vs.toArray 120)=w1 at y K q1 ⊢;refine (q72 none 0 0 [] S.Qa 2 _ (Ik _) (by omega) (by omega) (by omega)).mono ?_;rintro e w2 ⟨A2,n2,c2,rfl,m,a2,B⟩;have I:=y.below B y.lt;have J:=K.trans (B.mono K.size);have q2:=I.c2;clear q1;go_wp2_with fail
 refine (q72 A2 n2 c2 _ S.log 2 _ m.sl (by omega) (by omega) (by omega)).mono ?_;rintro e w3 ⟨A3,n3,c3,rfl,d,a6,D⟩;have H3:=I.below D I.lt;have B3:=J.trans (D.mono J.size);have q3:=H3.lda;have e3:[]++Qy S.Qa (2:Int).toNat++Qy S.log (2:Int).toNat=Zq S 0:=by rw[q9e];rfl
 rw[e3] at d;have d:=d.less J.size;clear q2 y I m;go_wp2_with fail
 go_loopw [3,15] (λb i wr=>∃(k:Nat) (A:Option Addr) (n c:Nat),k<=8/\n<=4+18*k/\b=.slice A n c/\i=.int .i64 (k:Int)/\Own wr w.1.size 5 A n c (Zq S k)/\Below w.1.size w wr) (λ_ i _=>8-(intOf i).toNat)
 case atStart=>exact⟨0,A3,n3,c3,by omega,by omega,rfl,rfl,d,B3⟩
 case round=>
  obtain⟨k,A,n,c,hk,hn,rfl,rfl,own,O⟩:=hrel;by_cases u:k<8
  ·have Q:=qyd S u;have a1:(0:Int)<=(k:Int):=by omega
   have F:=Lib.hid (q9f S u);have G:=hv k u;obtain⟨x,X⟩:∃x,S.at_ k=x:=⟨_,rfl⟩;rw[X] at Q G F;clear X;go_wp2_with fail
   have M:Below wr.1.size wr (wr.alloc (.cells #[.string x.name,.bool x.ro,.int .i64 x.root,.int .i64 x.next] 117)):=Qk;have H:=own.below M;have f:=O.trans (M.mono O.size);generalize wr.alloc (.cells #[.string x.name,.bool x.ro,.int .i64 x.root,.int .i64 x.next] 117)=wx at M H f ⊢;refine (ql8 x G A n c _ wx H.sl (by omega)).mono ?_;rintro e w5 ⟨A5,Z,c5,rfl,p,T,P⟩;rw[<-F.out] at p;have E:Z<=4+18*(k+1):=by omega
   clear T;go_wp2;exact⟨⟨k+1,A5,Z,c5,by omega,E,rfl,by go_num,p.less f.size,f.trans (P.mono f.size)⟩,by simp[intOf];omega⟩
  ·have R:k=8:=by omega
   rw[R] at own;go_wp2;go_ret;exact⟨_,_,_,rfl,own,O⟩
end
def rdN (l:List UInt8):ByteArray:=⟨((l.drop 1).take (min (gN l 0 1) 10)).toArray⟩
def Il (l:List UInt8):Vl:=⟨rdN l,decide (gN l 11 1≠0),(gN l 12 2:Int),(gN l 14 4:Int)⟩
theorem qsl (l:List UInt8):(rdN l).size<=10:=by
 unfold rdN;show (List.take _ _).toArray.size<=10;rw[List.size_toArray,List.length_take];omega
theorem D5 {l0:List UInt8}(p m n:Nat){A:Option Addr}{c:Nat}{w:World}(h:Sl w A n c (l0.drop p))(B:Int)(H:B=(m:Int))(h1:1<=m)(I:m<=7)(hn:m<=n)(G:n<=100000) :
  Calls Tryz.prog 151 #[.slice A n c,.int .i64 B] w λe y=>∃f d u,e=.returned (.tuple #[.int .i64 (gN l0 p m),.slice f d u,.int .i64 0])/\Own y w.1.size 5 f d u (l0.drop (p+m))/\(d+m<=n/\n<=d+m)/\Below w.1.size w y:=by
 refine (q5b A n c _ B w h (by omega) (by omega) (by omega) (by omega)).mono ?_;rintro e y ⟨f,d,u,rfl,own,D⟩;subst H;rw[Int.toNat_natCast,List.drop_drop] at own;rw[Int.toNat_natCast];have E:=own.len;have F:=h.len;rw[List.length_drop] at E F;exact⟨f,d,u,rfl,own,⟨by omega,by omega⟩,D⟩
theorem Own.some_ {w:World}{base n c:Nat}{e:TypeId}{A:Option Addr}{l:List UInt8}(h:Own w base e A n c l)(h0:0<n):∃g,A=some ⟨g,0,none⟩:=by
 rcases h.2 with⟨d,rfl⟩|⟨g,cap,f,d,_⟩
 ·omega
 ·injection d with m;exact⟨g,m⟩
theorem VB.set0 {w:World}{b:Nat}{v:Vl}(H:VB w b v)(s:ByteArray):VB (w.setCell ⟨b,0,none⟩ (.string s)) b ⟨s,v.ro,v.root,v.next⟩:=by
 obtain⟨t,H⟩:=H;exact⟨t,heap_setCell_same w b 0 _ t _ H⟩
theorem VB.set1 {w:World}{b:Nat}{v:Vl}(H:VB w b v)(x:Bool):VB (w.setCell ⟨b,1,none⟩ (.bool x)) b ⟨v.name,x,v.root,v.next⟩:=by
 obtain⟨t,H⟩:=H;exact⟨t,heap_setCell_same w b 1 _ t _ H⟩
theorem VB.set2 {w:World}{b:Nat}{v:Vl}(H:VB w b v)(x:Int):VB (w.setCell ⟨b,2,none⟩ (.int .i64 x)) b ⟨v.name,v.ro,x,v.next⟩:=by
 obtain⟨t,H⟩:=H;exact⟨t,heap_setCell_same w b 2 _ t _ H⟩
theorem VB.Qcx {w:World}{b:Nat}{v:Vl}(H:VB w b v)(x:Int):VB (w.setCell ⟨b,3,none⟩ (.int .i64 x)) b ⟨v.name,v.ro,v.root,x⟩:=by
 obtain⟨t,H⟩:=H;exact⟨t,heap_setCell_same w b 3 _ t _ H⟩
theorem q73 {w:World}{b base n c j:Nat}{e:TypeId}{A:Option Addr}{l:List UInt8}(own:Own w base e A n c l)(d:b<base)(x:Value):Own (w.setCell ⟨b,j,none⟩ x) base e A n c l:=
 own.turn λg f _=>Below.heap_setCell _ _ _ _ (by show g≠b;omega)
theorem q33 (w:World)(b j:Nat)(x:Value):Below b w (w.setCell ⟨b,j,none⟩ x):=(Below.refl _ w).setCell (p:=⟨b,j,none⟩) (Nat.le_refl _) _
theorem q1o {m:Func}{p a:Tmp}{ty:TypeId}{f:Addr}{v:Value}{P:Program}{w:World}{d:Array Value}(h:m.results=#[.cell p ty,.tmp a])(y:d.getD p undef=.pointer (some f))(u:(loadVar ty f).run P w=.ok v w) :
  (results m d).run P w=.ok (.tuple #[v,d.getD a undef]) w:=by
 have e:(results m d).run P w=((asAddr (d.getD p undef)).run P w).andThen λf A=>((loadVar ty f).run P A).andThen λv B=>.ok (.tuple #[v,d.getD a undef]) B:=by
  simp only[results,h];simp[Sem.run_bind,Result.andThen]
 rw[e,y];simp[asAddr,u]
theorem qh2 (A:Option Addr)(n c:Nat)(l:List UInt8)(w:World)(hs:Sl w A n c l)(hn:18<=n)(e0:n<=1000) :
  Calls Tryz.prog 270 #[.slice A n c] w λe w'=>
   ∃A' n' c',e=.returned (.tuple #[(Il l).v,.slice A' n' c'])/\Own w' w.1.size 5 A' n' c' (l.drop 18)/\(n'+18<=n/\n<=n'+18)/\Below w.1.size w w':=by
 have Z1:VB (w.alloc (.cells #[.string ⟨#[]⟩,.bool false,.int .i64 0,.int .i64 0] 117)) w.1.size Vl.zero:=VB.new w Vl.zero _;have b1:Below w.1.size w (w.alloc (.cells #[.string ⟨#[]⟩,.bool false,.int .i64 0,.int .i64 0] 117)):=Qk;have z1:(w.alloc (.cells #[.string ⟨#[]⟩,.bool false,.int .i64 0,.int .i64 0] 117)).1.size=w.1.size+1:=by simp
 go_enter Tryz.func270,Tryz.ntmps270
 go_wp2_with fail
 generalize w.alloc (.cells #[.string ⟨#[]⟩,.bool false,.int .i64 0,.int .i64 0] 117)=T at Z1 b1 z1 ⊢;rw[<-z1];have V2:VB (T.alloc (.cells #[.string ⟨#[]⟩,.bool false,.int .i64 0,.int .i64 0] 117)) T.1.size Vl.zero:=VB.new T Vl.zero _;have b2:Below T.1.size T (T.alloc (.cells #[.string ⟨#[]⟩,.bool false,.int .i64 0,.int .i64 0] 117)):=Qk;generalize T.alloc (.cells #[.string ⟨#[]⟩,.bool false,.int .i64 0,.int .i64 0] 117)=w2 at V2 b2 ⊢;have Z2:=Z1.below b2 (by omega);have B2:=b1.trans (b2.mono b1.size);obtain⟨f,a8⟩:∃f,T.1.size=f:=⟨_,rfl⟩;rw[a8] at V2 ⊢;have e6:w.1.size<f:=by omega
 clear Z1 b1 b2 z1 a8;refine (D5 (l0:=l) 0 1 n (hs.below B2) 1 rfl (by omega) (by omega) (by omega) (by omega)).mono ?_;rintro e p ⟨A3,n3,c3,rfl,d,e1,G⟩;have V3:=V2.below G V2.lt;have Z3:=Z2.below G Z2.lt;have B3:=B2.trans (G.mono B2.size);have b5:=V2.lt;obtain⟨m,hm⟩:∃m,gN l 0 1=m:=⟨_,rfl⟩;have y:=Lib.hid (show rdN l=⟨((l.drop 1).take (min m 10)).toArray⟩ by unfold rdN;rw[hm]);rw[hm];clear hm Z2 V2;have v3:=V3.c0;have f3:=V3.fz 0;have d:Own p w2.1.size 5 A3 n3 c3 (l.drop 1):=d;have d9:=d.sl.cap;have d4:=d.sl.max;unfold maxLen at d4;obtain⟨g3,d5⟩:=d.some_ (by omega);subst d5;obtain⟨nm,K⟩:∃nm,rdN l=nm:=⟨_,rfl⟩;have c8:=Lib.hid K;have b7:m<=10->(convert 48 9 (.slice (some ⟨g3,0,none⟩) m c3)).run Tryz.prog p=.ok (.string nm) p:=λh=>by
  have:=q8m (d.sl.take (k:=m) (by omega));rw[this,<-K,y.out,Nat.min_eq_left h]
 have b8:10<m->(convert 48 9 (.slice (some ⟨g3,0,none⟩) 10 c3)).run Tryz.prog p=.ok (.string nm) p:=λh=>by
  have:=q8m (d.sl.take (k:=10) (by omega));rw[this,<-K,y.out,Nat.min_eq_right (by omega)]
 have F:=d.sl.drop (k:=10) (by omega);rw[if_neg (by omega),List.drop_drop] at F;have F:Sl p (some ⟨g3,10,none⟩) (n3-10) (c3-10) (l.drop 11):=F;have i1:(10:Nat)<=c3:=by omega
 have i2:¬c3=10:=by omega
 clear K y;rcases (by omega:m<=10\/10<m) with hm|hm
 all_goals
  have i3:((m:Int)<=10)=(m<=10):=by rw[eq_iff_iff];omega
  first|(have M:=b7 hm;have i4:(m:Int)<=10:=by omega)|(have M:=b8 hm;have i4:¬(m:Int)<=10:=by omega)
  have i5:(0:Int)<=(m:Int):=by omega
  have i6:m<=10->m<=c3:=by omega
  clear b7 b8 i3;have O:=q73 d (show f<w2.1.size from b5) (j:=0) (.string nm);have U:=q33 p f 0 (.string nm);have Y:Sl (p.setCell ⟨f,0,none⟩ (.string nm)) (some ⟨g3,10,none⟩) (n3-10) (c3-10) (l.drop 11):=by
   have:=O.sl.drop (k:=10) (by omega);rw[if_neg (by omega),List.drop_drop] at this;exact this
  have V4:=V3.set0 nm;have Z4:=Z3.below U (by omega);have B4:=B3.trans (U.mono (by omega));have z4:(p.setCell ⟨f,0,none⟩ (.string nm)).1.size=p.1.size:=World.size_setCell ..;go_wp2_with fail
  clear M O U F v3 f3 V3 Z3 B3 d;have e7:=G.size;have b0:f<(p.setCell ⟨f,0,none⟩ (.string nm)).1.size:=by omega
  generalize p.setCell ⟨f,0,none⟩ (.string nm)=w4 at Y V4 Z4 B4 z4 b0 ⊢;refine (D5 (l0:=l) 11 1 (n3-10) Y 1 rfl (by omega) (by omega) (by omega) (by omega)).mono ?_;rintro e w5 ⟨A5,n5,c5,rfl,P,e2,H⟩;have V5:=V4.below H V4.lt;have Z5:=Z4.below H Z4.lt;have B5:=B4.trans (H.mono B4.size);obtain⟨mk,Z⟩:∃mk,gN l 11 1=mk:=⟨_,rfl⟩;rw[Z];have v5:=V5.c1;have f5:=V5.fz 1;obtain⟨ro,a1⟩:∃ro,decide (mk≠0)=ro:=⟨_,rfl⟩;have b6:((mk:Int)!=0)=ro:=by rw[<-a1,Bool.eq_iff_iff];simp
  have d0:=Lib.hid (show decide (gN l 11 1≠0)=ro by rw[Z];exact a1);have B:=q73 P (show f<w4.1.size from b0) (j:=1) (.bool ro);have W:=q33 w5 f 1 (.bool ro);have V6:=V5.set1 ro;have Z6:=Z5.below W (by omega);have B6:=B5.trans (W.mono (by omega));have z6:(w5.setCell ⟨f,1,none⟩ (.bool ro)).1.size=w5.1.size:=World.size_setCell ..;clear a1 Z;go_wp2_with fail
  clear P W v5 f5 V5 Z5 B5 b6 Y V4 Z4 B4 z4;have e8:=H.size;have b3:f<(w5.setCell ⟨f,1,none⟩ (.bool ro)).1.size:=by omega
  have d7:w4.1.size<=(w5.setCell ⟨f,1,none⟩ (.bool ro)).1.size:=by omega
  generalize w5.setCell ⟨f,1,none⟩ (.bool ro)=w6 at B V6 Z6 B6 z6 b3 d7 ⊢;refine (D5 (l0:=l) 12 2 n5 B.sl 2 rfl (by omega) (by omega) (by omega) (by omega)).mono ?_;rintro e w7 ⟨A7,n7,c7,rfl,Q,e3,I⟩;have V7:=V6.below I V6.lt;have Z7:=Z6.below I Z6.lt;have B7:=B6.trans (I.mono B6.size);have v7:=V7.c2;have f7:=V7.fz 2;have D:=q73 Q (show f<w6.1.size from b3) (j:=2) (.int .i64 (gN l 12 2:Int));have X:=q33 w7 f 2 (.int .i64 (gN l 12 2:Int));have V8:=V7.set2 (gN l 12 2:Int);have Z8:=Z7.below X (by omega);have B8:=B7.trans (X.mono (by omega));have z8:(w7.setCell ⟨f,2,none⟩ (.int .i64 (gN l 12 2:Int))).1.size=w7.1.size:=World.size_setCell ..;go_wp2_with fail
  clear Q X v7 f7 V7 Z7 B7 B V6 Z6 B6 z6;have e9:=I.size;have b4:f<(w7.setCell ⟨f,2,none⟩ (.int .i64 (gN l 12 2:Int))).1.size:=by omega
  generalize w7.setCell ⟨f,2,none⟩ (.int .i64 (gN l 12 2:Int))=w8 at D V8 Z8 B8 z8 b4 ⊢;refine (D5 (l0:=l) 14 4 n7 D.sl 4 rfl (by omega) (by omega) (by omega) (by omega)).mono ?_;rintro e w9 ⟨A9,n9,c9,rfl,R,e4,J⟩;have V9:=V8.below J V8.lt;have Z9:=Z8.below J Z8.lt;have B9:=B8.trans (J.mono B8.size);have v9:=V9.c3;have f9:=V9.fz 3;have a2:=q73 R (show f<w8.1.size from b4) (j:=3) (.int .i64 (gN l 14 4:Int));have u:=q33 w9 f 3 (.int .i64 (gN l 14 4:Int));have E:=V9.Qcx (gN l 14 4:Int);have d3:=Z9.below u (by omega);have b9:=B9.trans (u.mono (by omega));have u0:=E.c0;have u1:=E.c1;have u2:=E.c2;have u3:=E.c3;have f0:=J.size;have e5:w.1.size<w8.1.size:=by omega
  clear R u V9 Z9 B9 D V8 Z8 B8 z8;go_wp2_with (first
   |(refine qgz rfl _ _ rfl w.1.size rfl ⟨nm,ro,(gN l 12 2:Int),(gN l 14 4:Int)⟩ Vl.zero rfl d3 ?_;intro d8 d2 a7 d1)
   |fail)
  have a6:=a2.turn (w':=d8) λg hg hl=>d1.block g hl (by show ¬g=w.1.size;omega)
  have c6:=b9.trans (a7 _ (Nat.le_refl _));have d6:Il l=⟨nm,ro,(gN l 12 2:Int),(gN l 14 4:Int)⟩:=by unfold Il;rw[c8.out,d0.out]
  refine bodyPost_ret (q1o Tryz.results270 rfl (qwb d2)) rfl ?_;rw[d6];exact⟨A9,n9,c9,rfl,a6.less (by omega),⟨by omega,by omega⟩,c6⟩
section
def Vs (g:Int)(l:List UInt8)(k:Nat):Sp:=⟨g,(gN l 0 2:Int),(gN l 2 2:Int),(List.range 8).map (λi=>if i<k then Il (l.drop (4+18*i)) else Vl.zero),by simp⟩
def rdS (g:Int)(l:List UInt8):Sp:=Vs g l 8
def sp0 (g a b:Int):Sp:=⟨g,a,b,List.replicate 8 Vl.zero,rfl⟩
theorem ql9 (g:Int)(l:List UInt8):Vs g l 0=sp0 g (gN l 0 2:Int) (gN l 2 2:Int):=rfl
theorem qla (g:Int)(l:List UInt8){k:Nat}(_:k<8):(Vs g l k).Oz k (Il (l.drop (4+18*k)))=Vs g l (k+1):=by
 refine Sp.ext' rfl rfl rfl ?_;show (((List.range 8).map (λi=>if i<k then Il (l.drop (4+18*i)) else Vl.zero)).set k (Il (l.drop (4+18*k))))=(List.range 8).map (λi=>if i<k+1 then Il (l.drop (4+18*i)) else Vl.zero);refine List.ext_getElem (by simp) λi h1 h2=>?_
 have hi:i<8:=by simpa using h2
 rw[List.getElem_set];by_cases h:k=i
 ·subst h;simp
 ·rw[if_neg h];simp only[List.getElem_map,List.getElem_range];by_cases d:i<k
  ·rw[if_pos d,if_pos (by omega)]
  ·rw[if_neg d,if_neg (by omega)]
theorem qsm (g:Int)(l:List UInt8)(k:Nat){i:Nat}(hi:i<8):(Vs g l k).at_ i=if i<k then Il (l.drop (4+18*i)) else Vl.zero:=by
 have h:=(Vs g l k).get hi;have h2:(Vs g l k).Jo[i]?=some (if i<k then Il (l.drop (4+18*i)) else Vl.zero):=by
  show ((List.range 8).map (λi=>if i<k then Il (l.drop (4+18*i)) else Vl.zero))[i]?=_;rw[List.getElem?_map,List.getElem?_range hi];rfl
 rw[h] at h2;exact Option.some.inj h2
theorem qsn (g:Int)(l:List UInt8):(rdS g l).fine:=λk d=>by
 unfold rdS;rw[qsm g l 8 d,if_pos d];have:=qsl (l.drop (4+18*k));unfold maxLen;show (rdN _).size<=_;omega
theorem SB.set1 {w:World}{b:Nat}{S:Sp}(H:SB w b S)(x:Int):SB (w.setCell ⟨b,1,none⟩ (.int .i64 x)) b ⟨S.gen,x,S.log,S.Jo,S.len⟩:=by
 obtain⟨t,H⟩:=H;exact⟨t,heap_setCell_same w b 1 _ t _ H⟩
theorem SB.set2 {w:World}{b:Nat}{S:Sp}(H:SB w b S)(x:Int):SB (w.setCell ⟨b,2,none⟩ (.int .i64 x)) b ⟨S.gen,S.Qa,x,S.Jo,S.len⟩:=by
 obtain⟨t,H⟩:=H;exact⟨t,heap_setCell_same w b 2 _ t _ H⟩
theorem qh3 {e:Array Oper}{d:List Oper}{o:Oper}{a:Act}{w:World}{Q:Exit->Act->World->Prop}(u:o.guard=none)(x y:Operand)(m:o.op=Op.store 117 x y)
  (b k:Nat) (A:k<8) (D:a.eval x=.pointer (some ⟨b,3+k*4,none⟩)) (v:Vl) (S:Sp) (E:a.eval y=v.v) (H:SB w b S)
  (p:∀f,SB f b (S.Oz k v)->(∀B,B<=b->Below B w f)->Turn (λk=>k=b) w f->wpList Tryz.prog e Q d (a.put o.dst undef) f):wpList Tryz.prog e Q (o::d) a w:=
 qgy u x y m b k A (by rw[D,Nat.mul_comm]) v S E H p
def alS (h:Bool)(old:Value):Sem Value:=Instr.alloc 120 h old
theorem q4s (h:Bool)(old:Value):Instr.alloc 120 h old=alS h old:=rfl
def bdS (parts:Array (Nat × Value)):Sem Value:=Instr.build 120 parts
theorem q8s (parts:Array (Nat × Value)):Instr.build 120 parts=bdS parts:=rfl
theorem qd3 (h:Bool)(w:World):(alS h (.tuple #[])).run Tryz.prog w=.ok (.pointer (some ⟨w.1.size,0,none⟩)) (w.alloc (.cells Sp.zero.vs.toArray 120)):=by
 cases h
 ·show (Instr.alloc 120 false (.tuple #[])).run Tryz.prog w=_;kernel_rfl
 ·show (Instr.alloc 120 true (.tuple #[])).run Tryz.prog w=_;kernel_rfl
theorem qiv (w:World):(bdS #[]).run Tryz.prog w=.ok (.agg Sp.zero.vs.toArray) w:=by
 show (Instr.build 120 #[]).run Tryz.prog w=_;kernel_rfl
theorem qwg (g:Int)(w:World):(bdS #[(0,.int .i64 g)]).run Tryz.prog w=.ok (.agg (sp0 g 0 0).vs.toArray) w:=by
 show (Instr.build 120 #[(0,.int .i64 g)]).run Tryz.prog w=_;kernel_rfl
attribute [local go_sem ↓] q1n q6c q4s q8s
theorem qd4 (g:Int)(A:Option Addr)(n c:Nat)(l:List UInt8)(w:World)(hs:Sl w A n c l)(hn:148<=n)(d6:n<=1000) :
  Calls Tryz.prog 248 #[.int .i64 g,.slice A n c] w λe w'=>e=.returned (.agg (rdS g l).vs.toArray)/\Below w.1.size w w':=by
 have b4:=qd3;have b5:=qwg g;have Z1:=SB.new w Sp.zero 120;have b1:Below w.1.size w (w.alloc (.cells Sp.zero.vs.toArray 120)):=Qk;have z1:(w.alloc (.cells Sp.zero.vs.toArray 120)).1.size=w.1.size+1:=by simp
 have H2:=SB.new (w.alloc (.cells Sp.zero.vs.toArray 120)) Sp.zero 120;rw[z1] at H2;go_enter Tryz.func248,Tryz.ntmps248
 go_wp2_with (first
  |(refine Eu rfl _ _ rfl (w.1.size+1) rfl (sp0 g 0 0) Sp.zero rfl H2 ?_;intro w3 R X T3)
  |fail)
 have b2:Below (w.alloc (.cells Sp.zero.vs.toArray 120)).1.size (w.alloc (.cells Sp.zero.vs.toArray 120)) ((w.alloc (.cells Sp.zero.vs.toArray 120)).alloc (.cells Sp.zero.vs.toArray 120)):=Qk;rw[z1] at b2;have b3:=b2.trans (X _ (Nat.le_refl _));have Z3:=Z1.below b3 (by omega);have B3:=b1.trans (b3.mono (by omega));obtain⟨d,Y⟩:∃d,w.1.size+1=d:=⟨_,rfl⟩;rw[Y] at R ⊢;have c9:w.1.size<d:=by omega
 have a7:=hs.below B3;clear Z1 b1 z1 H2 X T3 b2 b3 Y b4 b5;refine (D5 (l0:=l) 0 2 n a7 2 rfl (by omega) (by omega) (by omega) (by omega)).mono ?_;rintro e w4 ⟨A4,n4,c4,rfl,E,b7,f⟩;have H4:=R.below f R.lt;have Z4:=Z3.below f Z3.lt;have B4:=B3.trans (f.mono B3.size);have q4:=H4.c1;have f4:=H4.fz 1;obtain⟨I,O⟩:∃I:Int,(gN l 0 2:Int)=I:=⟨_,rfl⟩;rw[O];have F:=q73 E (show d<w3.1.size from R.lt) (j:=1) (.int .i64 I);have J:=q33 w4 d 1 (.int .i64 I);have T:=H4.set1 I;have Z5:=Z4.below J (by omega);have B5:=B4.trans (J.mono (by omega));have z5:(w4.setCell ⟨d,1,none⟩ (.int .i64 I)).1.size=w4.1.size:=World.size_setCell ..;go_wp2_with fail
 clear E J q4 f4 H4 Z4 B4 R Z3 B3 a7;have d0:=f.size;generalize w4.setCell ⟨d,1,none⟩ (.int .i64 I)=w5 at F T Z5 B5 z5 ⊢;refine (D5 (l0:=l) 2 2 n4 F.sl 2 rfl (by omega) (by omega) (by omega) (by omega)).mono ?_;rintro e Q ⟨A6,n6,c6,rfl,G,b8,D⟩;have H6:=T.below D T.lt;have Z6:=Z5.below D Z5.lt;have B6:=B5.trans (D.mono B5.size);have q6:=H6.c2;have f6:=H6.fz 2;obtain⟨B,P⟩:∃B:Int,(gN l 2 2:Int)=B:=⟨_,rfl⟩;rw[P];have u:=q73 G (show d<w5.1.size from T.lt) (j:=2) (.int .i64 B);have K:=q33 Q d 2 (.int .i64 B);have U:=H6.set2 B;have Z7:=Z6.below K (by omega);have B7:=B6.trans (K.mono (by omega));have z7:(Q.setCell ⟨d,2,none⟩ (.int .i64 B)).1.size=Q.1.size:=World.size_setCell ..;go_wp2_with fail
 clear G K q6 f6 H6 Z6 B6 T Z5 B5;have d7:n6+4<=n/\n<=n6+4:=by omega
 have e7:∀H:Sp,SB (Q.setCell ⟨d,2,none⟩ (.int .i64 B)) d H->H=sp0 g I B->SB (Q.setCell ⟨d,2,none⟩ (.int .i64 B)) d (Vs g l 0):=λH h e=>by
  rw[ql9,O,P,<-e];exact h
 have U:=e7 _ U rfl;generalize Q.setCell ⟨d,2,none⟩ (.int .i64 B)=w7 at u U Z7 B7 z7 e7 ⊢;have b0:Sl w7 A6 n6 c6 (l.drop (4+18*0)):=u.sl;clear e7 u D f O P z7 z5 b8 b7 d0;go_loopw [1,23] (λb i wr=>∃(k m:Nat) (A:Option Addr) (c:Nat),k<=8/\n<=m+4+18*k/\m<=n/\b=.slice A m c/\i=.int .i64 (k:Int)/\Sl wr A m c (l.drop (4+18*k))/\SB wr d (Vs g l k)/\SB wr w.1.size Sp.zero/\Below w.1.size w wr) (λ_ i _=>8-(intOf i).toNat)
 case atStart=>exact⟨0,n6,A6,c6,by omega,by omega,by omega,rfl,rfl,b0,U,Z7,B7⟩
 case round=>
  clear b0 U Z7 B7;obtain⟨k,m,A,c,hk,d4,d5,rfl,rfl,sl,H,Z,hB⟩:=hrel;by_cases a1:k<8
  ·have d1:(0:Int)<=(k:Int):=by omega
   have a6:=Lib.hid (qla g l a1);go_wp2_with fail
   refine (qh2 A m c _ wr sl (by omega) (by omega)).mono ?_;rintro e w8 ⟨A8,n8,c8,rfl,y,b9,M⟩;have H8:=H.below M H.lt;have Z8:=Z.below M Z.lt;have B8:=hB.trans (M.mono hB.size);rw[List.drop_drop,show 4+18*k+18=4+18*(k+1) by omega] at y;have d3:=H.lt;have c7:n<=n8+4+18*(k+1):=by omega
   have a2:n8<=n:=by omega
   clear H Z hB sl b9;obtain⟨v,hv⟩:∃v,Il (l.drop (4+18*k))=v:=⟨_,rfl⟩;have W:=Lib.hid (show (Vs g l k).Oz k v=Vs g l (k+1) by rw[<-hv];exact a6.out);rw[hv];clear hv a6;go_wp2_with (first
    |(refine qh3 rfl _ _ rfl d k a1 rfl v (Vs g l k) rfl H8 ?_;intro w9 H9 p T9)
    |fail)
   rw[W.out] at H9;have a8:=y.turn (w':=w9) λq hq hl=>T9.block q hl (by show ¬q=d;omega)
   have Z9:=Z8.below (p d (Nat.le_refl _)) c9;have B9:=B8.trans (p _ (by omega));clear W H8 Z8 B8 y T9 p;go_wp2;exact⟨⟨k+1,n8,A8,c8,by omega,c7,a2,rfl,by go_num,a8.sl,H9,Z9,B9⟩,by simp[intOf];omega⟩
  ·have b6:k=8:=by omega
   subst b6;have H:SB wr d (rdS g l):=H;have d2:=H.ld;go_wp2_with (first
    |(refine Eu rfl _ _ rfl w.1.size rfl (rdS g l) Sp.zero rfl Z ?_;intro w9 H9 p T9)
    |fail)
   refine bodyPost_ret (q2e Tryz.results248 rfl (q3k H9)) rfl ?_;exact⟨rfl,hB.trans (p _ (Nat.le_refl _))⟩
end
section
def Dk (S:Sp)(slot:Int):Hd:=⟨1,slot,0,0,S.gen⟩
def Yi (S:Sp)(slot:Int):Bool:=S.may&&decide (0<=slot/\slot<=1)
def swE (S:Sp)(slot:Int):Int:=if Yi S slot=true then 0 else 1
def swB (S:Sp)(slot:Int):List UInt8:=if Yi S slot=true then Zn (Dk S slot) (Ja S) else []
theorem Tc {S:Sp}(h:S.may=true):(1<=S.gen/\S.gen<=1099511627775/\32<=S.Qa/\S.Qa<=2048/\0<=S.log/\S.log<=S.Qa-1)/\∀j,j<8->S.ok1 j=true:=by
 unfold Sp.may at h;rw[Bool.and_eq_true] at h;exact⟨of_decide_eq_true h.1,λj d=>List.all_eq_true.1 h.2 j (List.mem_range.2 d)⟩
theorem qiw {s:ByteArray}(h:Du s=true):1<=s.size/\s.size<=10:=by
 unfold Du at h;rw[Bool.and_eq_true] at h;exact of_decide_eq_true h.2
theorem qeo {S:Sp}{j:Nat}(h:S.ok1 j=true):S.at_ j=Vl.zero\/(Du (S.at_ j).name=true/\(0<=(S.at_ j).root/\(S.at_ j).root<=S.Qa-1)/\(2<=(S.at_ j).next/\(S.at_ j).next<=2147483647)):=by
 unfold Sp.ok1 at h;rw[Bool.or_eq_true] at h;rcases h with h|h
 ·exact .inl ((Vl.same_iff _ _).1 h)
 ·rw[Bool.and_eq_true] at h;have h:=h.1;unfold Vl.ok at h;rw[Bool.and_eq_true,Bool.and_eq_true] at h;exact .inr ⟨h.1,of_decide_eq_true h.2.1,of_decide_eq_true h.2.2⟩
theorem q6d {S:Sp}(h:S.may=true):∀j,j<8->(S.at_ j).name.size<=10:=λj d=>by
 rcases qeo ((Tc h).2 j d) with e|⟨h,_⟩
 ·rw[e];show 0<=10;omega
 ·exact (qiw h).2
theorem qnq {S:Sp}{slot:Int}(h:Yi S slot=true):(Dk S slot).ok=true:=by
 unfold Yi at h;rw[Bool.and_eq_true] at h;have h1:=(Tc h.1).1;have h2:=of_decide_eq_true h.2;refine decide_eq_true ⟨⟨?_,?_⟩,⟨?_,?_⟩,⟨?_,?_⟩,⟨?_,?_⟩,?_,?_⟩<;>(dsimp only[Dk];omega)
theorem q9g {S:Sp}(h:S.may=true):(Ja S).length=148:=J5 S 8 (by omega) (q6d h)
theorem qix {S:Sp}{slot:Int}(h:Yi S slot=true):swE S slot=0/\swB S slot=Zn (Dk S slot) (Ja S)/\Xn (Dk S slot) (Ja S)=0/\Xy (Dk S slot) (Ja S)=Zn (Dk S slot) (Ja S):=by
 have hm:S.may=true:=by unfold Yi at h;rw[Bool.and_eq_true] at h;exact h.1
 have d:=q9g hm;unfold swE swB Xn Xy;rw[if_pos h,if_pos h,if_pos (qnq h),if_pos (by omega),if_pos (qnq h),if_pos (by omega)];exact⟨rfl,rfl,rfl,rfl⟩
theorem qwh {S:Sp}{slot:Int}(h:Yi S slot=false):swE S slot=1/\swB S slot=[]:=by
 unfold swE swB;rw[h];exact⟨rfl,rfl⟩
attribute [local go_sem ↓] q1n q6c
theorem q74 (S:Sp)(slot:Int)(hf:S.fine)(w:World)(ht:Tab w) :
  Calls Tryz.prog 136 #[.agg S.vs.toArray,.int .i64 slot] w λe f=>
   ∃R n' T,e=.returned (.tuple #[.slice R n' T,.int .i64 (swE S slot)])/\Own f w.1.size 5 R n' T (swB S slot)/\(Yi S slot=true->∃g,R=some ⟨g,0,none⟩/\n'=256/\T=256)/\Below w.1.size w f:=by
 have G:=SB.new w S 120;have P:Below w.1.size w (w.alloc (.cells S.vs.toArray 120)):=Qk;have Q:=ht.below P ht.1;have J:=G.ld;obtain⟨m,hm⟩:∃m,S.may=m:=⟨_,rfl⟩;go_enter Tryz.func136,Tryz.ntmps136
 go_wp2_with fail
 generalize w.alloc (.cells S.vs.toArray 120)=w1 at G P J Q ⊢;refine (qsk S m hm hf w1).mono ?_;rintro e d ⟨rfl,A⟩;have H:=G.below A G.lt;have F:=P.trans (A.mono P.size);have t2:=Q.below A Q.1;have a6:=H.ld;have q2:=H.c0;clear G J A Q
 cases m
 ·obtain⟨h1,h2⟩:=qwh (S:=S) (slot:=slot) (by unfold Yi;rw[hm];rfl);have B:Yi S slot=false:=by unfold Yi;rw[hm];rfl
  go_wp2;go_ret2;rw[h1,h2,B];exact⟨_,_,_,rfl,q4n _ _ _,λh=>(by cases h),F⟩
 ·go_wp2_with fail
  by_cases y:0<=slot/\slot<=1
  ·have D:Yi S slot=true:=by unfold Yi;rw[hm,decide_eq_true y];rfl
   obtain⟨h1,h2,h3,h4⟩:=qix D;have U:=Lib.hid h1;have W:=Lib.hid h2;have a8:=Lib.hid D;refine (Pg slot 0 1 true (decide_eq_true y) _).mono ?_;rintro e O ⟨rfl,rfl⟩;go_wp2_with fail
   have X:∀f:World,Below d.1.size d f->f.cell? ⟨w.1.size,0,none⟩=some (.int .i64 S.gen)/\(ldS (.pointer (some ⟨w.1.size,0,none⟩))).run Tryz.prog f=.ok (.agg S.vs.toArray) f/\Below d.1.size d f:=
    λf Y=>⟨(Y.cell (p:=⟨w.1.size,0,none⟩) H.lt).trans q2,(H.below Y H.lt).ld,Y⟩
   have BD:Below d.1.size d d.drew:=(Below.refl _ _).drew;have zd:d.1.size<=d.drew.1.size:=Nat.le_refl _;have a7:=q6d hm;clear y h1 h2 a6 D;go_region_held3 (λf=>f.cell? ⟨w.1.size,0,none⟩=some (.int .i64 S.gen)/\(ldS (.pointer (some ⟨w.1.size,0,none⟩))).run Tryz.prog f=.ok (.agg S.vs.toArray) f/\Below d.1.size d f)
    (first|assumption|exact X _ BD|exact X _ u|exact X _ I)
    (first
     |(go_at_call 208;refine (qnp S a7 _).mono ?_;rintro e O ⟨A3,n3,c3,rfl,E,Z⟩;have K:Own O d.1.size 5 A3 n3 c3 _:=E;have u:Below d.1.size d O:=BD.trans (Z.mono zd))
     |(go_at_call 122;refine (q6v (Dk S slot) A3 n3 c3 _ O K.sl (t2.below u t2.1)).mono ?_;rw[h3,h4];rintro e w4 ⟨A4,n4,c4,rfl,M,a2,a1⟩;have I:Below d.1.size d w4:=u.trans (a1.mono (Below.size u)))
     |fail)
   go_wp2;go_ret2;rw[U.out,W.out];exact⟨_,_,_,rfl,(M.less (Below.size u)).less F.size,λ_=>a2 (by first|trivial|rfl),F.trans (I.mono F.size)⟩
  ·have B:Yi S slot=false:=by unfold Yi;rw[hm,decide_eq_false y];rfl
   obtain⟨h1,h2⟩:=qwh B;refine (Pg slot 0 1 false (decide_eq_false y) _).mono ?_;rintro e O ⟨rfl,rfl⟩;go_wp2;go_ret2;rw[h1,h2,B];exact⟨_,_,_,rfl,q4n _ _ _,λh=>(by cases h),F⟩
end
