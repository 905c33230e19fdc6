/- Superblocks: the code's body and Write -/
import Derived.Test.YtloolbmdiimanaaGreatDoorGv11
namespace Go.Proofs.YtloolbmdiimanaaGreatDoor
open Go Go.RowKit Go.Proofs Tryz
set_option maxHeartbeats 4000000
set_option maxRecDepth 100000
section
def ldS (p:Value):Sem Value:=Instr.loadAt 61 p
theorem q25 (p:Value):Instr.loadAt 61 p=ldS p:=rfl
def ldA (p:Value):Sem Value:=Instr.loadAt 59 p
theorem q6m (p:Value):Instr.loadAt 59 p=ldA p:=rfl
theorem SB.ld {w:WD}{b:Nat}{S:Sp}(H:SB w b S):(ldS (.pointer (some ⟨b,0,none⟩))).run prog w=.ok (.agg S.vs.toArray) w:=Qb5 H
theorem SB.lda {w:WD}{b:Nat}{S:Sp}(H:SB w b S):(ldA (.pointer (some ⟨b,3,none⟩))).run prog w=.ok (.agg (S.Jq.flatMap Vl.vs).toArray) w:=Qb6 H
attribute [local go_sem ↓] q25 q6m
def Zy (S:Sp):LU:=Zq S 8
theorem qo7 (S:Sp)(hv:∀j,j<8->(S.at_ j).name.size<=10)(w:WD) :
  Calls prog 69 #[.agg S.vs.toArray] w λe w'=>∃T X U,e=.returned (.slice T X U)/\Own w' w.1.size 5 T X U (Zy S)/\Below w.1.size w w':=by
 have u:=SB.new w S 61;have J:Below w.1.size w (w.alloc (.cells S.vs.toArray 61)):=Ql;have Z:=u.c1;go_enter func69,ntmps69
 go_wp2_with fail
 generalize w.alloc (.cells S.vs.toArray 61)=w1 at u J Z ⊢;refine (q7i none 0 0 [] S.Qa 2 _ (G6 _) (by omega) (by omega) (by omega)).mono ?_;rintro e w2 ⟨A2,n2,c2,rfl,g,a1,y⟩;have H:=u.below y u.lt;have I:=J.trans (y.mono J.size);have q2:=H.c2;clear Z;go_wp2_with fail
 refine (q7i A2 n2 c2 _ S.log 2 _ g.sl (by omega) (by omega) (by omega)).mono ?_;rintro e w3 ⟨A3,n3,c3,rfl,d,a2,B⟩;have H3:=H.below B H.lt;have B3:=I.trans (B.mono I.size);have q3:=H3.lda;have e3:[]++Q8 S.Qa (2:Int).toNat++Q8 S.log (2:Int).toNat=Zq S 0:=by rw[qa0];rfl
 rw[e3] at d;have d:=d.less I.size;clear q2 u H g;go_wp2_with fail
 go_loopw [3,15] (λb i wr=>∃(k:Nat) (A:OA) (n c:Nat),k<=8/\n<=4+18*k/\b=.slice A n c/\i=.int .i64 (k:Int)/\Own wr w.1.size 5 A n c (Zq S k)/\Below w.1.size w wr) (λ_ i _=>8-(intOf i).toNat)
 case atStart=>exact⟨0,A3,n3,c3,by omega,by omega,rfl,rfl,d,B3⟩
 case round=>
  obtain⟨k,A,n,c,hk,hn,rfl,rfl,own,M⟩:=hrel;by_cases p:k<8
  ·have P:=qy5 S p;have a0:(0:Int)<=(k:Int):=by omega
   have E:=HI (qa1 S p);have F:=hv k p;obtain⟨x,W⟩:∃x,S.at_ k=x:=⟨_,rfl⟩;rw[W] at P F E;clear W;go_wp2_with fail
   have K:Below wr.1.size wr (wr.alloc (.cells #[.string x.name,.bool x.ro,.int .i64 x.root,.int .i64 x.next] 58)):=Ql;have G:=own.below K;have f:=M.trans (K.mono M.size);generalize wr.alloc (.cells #[.string x.name,.bool x.ro,.int .i64 x.root,.int .i64 x.next] 58)=wx at K G f ⊢;refine (qlr x F A n c _ wx G.sl (by omega)).mono ?_;rintro e w5 ⟨A5,Y,c5,rfl,m,R,O⟩;rw[<-E.out] at m;have D:Y<=4+18*(k+1):=by omega
   clear R;go_wp2;exact⟨⟨k+1,A5,Y,c5,by omega,D,rfl,by go_num,m.less f.size,f.trans (O.mono f.size)⟩,by simp[intOf];omega⟩
  ·have Q:k=8:=by omega
   rw[Q] at own;go_wp2;go_ret;exact⟨_,_,_,rfl,own,M⟩
end
def rdN (l:LU):ByteArray:=⟨((l.drop 1).take (min (gN l 0 1) 10)).toArray⟩
def I9 (l:LU):Vl:=⟨rdN l,decide (gN l 11 1≠0),(gN l 12 2:Int),(gN l 14 4:Int)⟩
theorem qst (l:LU):(rdN l).size<=10:=by
 unfold rdN;show (List.take _ _).toArray.size<=10;rw[List.size_toArray,AR];omega
theorem Dy {l0:LU}(p m n:Nat){A:OA}{c:Nat}{w:WD}(h:Sl w A n c (l0.drop p))(y:Int)(G:y=(m:Int))(h1:1<=m)(H:m<=7)(hn:m<=n)(F:n<=100000) :
  Calls prog 54 #[.slice A n c,.int .i64 y] w λe u=>∃f d g,e=.returned (.tuple #[.int .i64 (gN l0 p m),.slice f d g,.int .i64 0])/\Own u w.1.size 5 f d g (l0.drop (p+m))/\(d+m<=n/\n<=d+m)/\Below w.1.size w u:=by
 refine (q4a A n c _ y w h (by omega) (by omega) (by omega) (by omega)).mono ?_;rintro e u ⟨f,d,g,rfl,own,B⟩;subst G;rw[AJ,List.drop_drop] at own;rw[AJ];have D:=own.len;have E:=h.len;rw[AS] at D E;exact⟨f,d,g,rfl,own,⟨by omega,by omega⟩,B⟩
theorem Own.some_ {w:WD}{base n c:Nat}{e:TypeId}{A:OA}{l:LU}(h:Own w base e A n c l)(h0:0<n):∃g,A=some ⟨g,0,none⟩:=by
 rcases h.2 with⟨d,rfl⟩|⟨g,cap,f,d,_⟩
 ·omega
 ·injection d with m;exact⟨g,m⟩
theorem VB.set0 {w:WD}{b:Nat}{v:Vl}(H:VB w b v)(s:ByteArray):VB (w.setCell ⟨b,0,none⟩ (.string s)) b ⟨s,v.ro,v.root,v.next⟩:=by
 obtain⟨t,H⟩:=H;exact⟨t,heap_setCell_same w b 0 _ t _ H⟩
theorem VB.set1 {w:WD}{b:Nat}{v:Vl}(H:VB w b v)(x:Bool):VB (w.setCell ⟨b,1,none⟩ (.bool x)) b ⟨v.name,x,v.root,v.next⟩:=by
 obtain⟨t,H⟩:=H;exact⟨t,heap_setCell_same w b 1 _ t _ H⟩
theorem VB.set2 {w:WD}{b:Nat}{v:Vl}(H:VB w b v)(x:Int):VB (w.setCell ⟨b,2,none⟩ (.int .i64 x)) b ⟨v.name,v.ro,x,v.next⟩:=by
 obtain⟨t,H⟩:=H;exact⟨t,heap_setCell_same w b 2 _ t _ H⟩
theorem VB.Qc1 {w:WD}{b:Nat}{v:Vl}(H:VB w b v)(x:Int):VB (w.setCell ⟨b,3,none⟩ (.int .i64 x)) b ⟨v.name,v.ro,v.root,x⟩:=by
 obtain⟨t,H⟩:=H;exact⟨t,heap_setCell_same w b 3 _ t _ H⟩
theorem q7j {w:WD}{b base n c j:Nat}{e:TypeId}{A:OA}{l:LU}(own:Own w base e A n c l)(d:b<base)(x:Value):Own (w.setCell ⟨b,j,none⟩ x) base e A n c l:=
 own.turn λg f _=>Below.heap_setCell _ _ _ _ (by show g≠b;omega)
theorem q3i (w:WD)(b j:Nat)(x:Value):Below b w (w.setCell ⟨b,j,none⟩ x):=(AI _ w).setCell (p:=⟨b,j,none⟩) (AE _) _
theorem q1u {g:Func}{p a:Tmp}{ty:TypeId}{f:Addr}{v:Value}{P:Program}{w:WD}{d:Array Value}(h:g.results=#[.cell p ty,.tmp a])(u:d.getD p undef=.pointer (some f))(m:(loadVar ty f).run P w=.ok v w) :
  (results g d).run P w=.ok (.tuple #[v,d.getD a undef]) w:=by
 have e:(results g d).run P w=((asAddr (d.getD p undef)).run P w).andThen λf y=>((loadVar ty f).run P y).andThen λv A=>.ok (.tuple #[v,d.getD a undef]) A:=by
  simp only[results,h];simp[Sem.run_bind,Result.andThen]
 rw[e,u];simp[asAddr,m]
theorem qhr (A:OA)(n c:Nat)(l:LU)(w:WD)(hs:Sl w A n c l)(hn:18<=n)(d7:n<=1000) :
  Calls prog 132 #[.slice A n c] w λe w'=>
   ∃A' n' c',e=.returned (.tuple #[(I9 l).v,.slice A' n' c'])/\Own w' w.1.size 5 A' n' c' (l.drop 18)/\(n'+18<=n/\n<=n'+18)/\Below w.1.size w w':=by
 have Z1:VB (w.alloc (.cells #[.string ⟨#[]⟩,.bool false,.int .i64 0,.int .i64 0] 58)) w.1.size Vl.zero:=VB.new w Vl.zero _;have b1:Below w.1.size w (w.alloc (.cells #[.string ⟨#[]⟩,.bool false,.int .i64 0,.int .i64 0] 58)):=Ql;have z1:(w.alloc (.cells #[.string ⟨#[]⟩,.bool false,.int .i64 0,.int .i64 0] 58)).1.size=w.1.size+1:=by simp
 go_enter func132,ntmps132
 go_wp2_with fail
 generalize w.alloc (.cells #[.string ⟨#[]⟩,.bool false,.int .i64 0,.int .i64 0] 58)=T at Z1 b1 z1 ⊢;rw[<-z1];have V2:VB (T.alloc (.cells #[.string ⟨#[]⟩,.bool false,.int .i64 0,.int .i64 0] 58)) T.1.size Vl.zero:=VB.new T Vl.zero _;have b2:Below T.1.size T (T.alloc (.cells #[.string ⟨#[]⟩,.bool false,.int .i64 0,.int .i64 0] 58)):=Ql;generalize T.alloc (.cells #[.string ⟨#[]⟩,.bool false,.int .i64 0,.int .i64 0] 58)=w2 at V2 b2 ⊢;have Z2:=Z1.below b2 (by omega);have B2:=b1.trans (b2.mono b1.size);obtain⟨f,a4⟩:∃f,T.1.size=f:=⟨_,rfl⟩;rw[a4] at V2 ⊢;have e3:w.1.size<f:=by omega
 clear Z1 b1 b2 z1 a4;refine (Dy (l0:=l) 0 1 n (hs.below B2) 1 rfl (by omega) (by omega) (by omega) (by omega)).mono ?_;rintro e p ⟨A3,n3,c3,rfl,d,d8,G⟩;have V3:=V2.below G V2.lt;have Z3:=Z2.below G Z2.lt;have B3:=B2.trans (G.mono B2.size);have a8:=V2.lt;obtain⟨m,hm⟩:∃m,gN l 0 1=m:=⟨_,rfl⟩;have y:=HI (show rdN l=⟨((l.drop 1).take (min m 10)).toArray⟩ by unfold rdN;rw[hm]);rw[hm];clear hm Z2 V2;have v3:=V3.c0;have f3:=V3.fz 0;have d:Own p w2.1.size 5 A3 n3 c3 (l.drop 1):=d;have d6:=d.sl.cap;have d1:=d.sl.max;unfold maxLen at d1;obtain⟨g3,d2⟩:=d.some_ (by omega);subst d2;obtain⟨nm,K⟩:∃nm,rdN l=nm:=⟨_,rfl⟩;have b6:=HI K;have b0:m<=10->(convert 22 9 (.slice (some ⟨g3,0,none⟩) m c3)).run prog p=.ok (.string nm) p:=λh=>by
  have:=q8w (d.sl.take (k:=m) (by omega));rw[this,<-K,y.out,Nat.min_eq_left h]
 have b3:10<m->(convert 22 9 (.slice (some ⟨g3,0,none⟩) 10 c3)).run prog p=.ok (.string nm) p:=λh=>by
  have:=q8w (d.sl.take (k:=10) (by omega));rw[this,<-K,y.out,Nat.min_eq_right (by omega)]
 have F:=d.sl.drop (k:=10) (by omega);rw[AB (by omega),List.drop_drop] at F;have F:Sl p (some ⟨g3,10,none⟩) (n3-10) (c3-10) (l.drop 11):=F;have i1:(10:Nat)<=c3:=by omega
 have i2:¬c3=10:=by omega
 clear K y;rcases (by omega:m<=10\/10<m) with hm|hm
 all_goals
  have i3:((m:Int)<=10)=(m<=10):=by rw[eq_iff_iff];omega
  first|(have M:=b0 hm;have i4:(m:Int)<=10:=by omega)|(have M:=b3 hm;have i4:¬(m:Int)<=10:=by omega)
  have i5:(0:Int)<=(m:Int):=by omega
  have i6:m<=10->m<=c3:=by omega
  clear b0 b3 i3;have O:=q7j d (show f<w2.1.size from a8) (j:=0) (.string nm);have U:=q3i p f 0 (.string nm);have Y:Sl (p.setCell ⟨f,0,none⟩ (.string nm)) (some ⟨g3,10,none⟩) (n3-10) (c3-10) (l.drop 11):=by
   have:=O.sl.drop (k:=10) (by omega);rw[AB (by omega),List.drop_drop] at this;exact this
  have V4:=V3.set0 nm;have Z4:=Z3.below U (by omega);have B4:=B3.trans (U.mono (by omega));have z4:(p.setCell ⟨f,0,none⟩ (.string nm)).1.size=p.1.size:=World.size_setCell ..;go_wp2_with fail
  clear M O U F v3 f3 V3 Z3 B3 d;have e4:=G.size;have a5:f<(p.setCell ⟨f,0,none⟩ (.string nm)).1.size:=by omega
  generalize p.setCell ⟨f,0,none⟩ (.string nm)=w4 at Y V4 Z4 B4 z4 a5 ⊢;refine (Dy (l0:=l) 11 1 (n3-10) Y 1 rfl (by omega) (by omega) (by omega) (by omega)).mono ?_;rintro e w5 ⟨A5,n5,c5,rfl,P,d9,H⟩;have V5:=V4.below H V4.lt;have Z5:=Z4.below H Z4.lt;have B5:=B4.trans (H.mono B4.size);obtain⟨mk,Z⟩:∃mk,gN l 11 1=mk:=⟨_,rfl⟩;rw[Z];have v5:=V5.c1;have f5:=V5.fz 1;obtain⟨ro,a0⟩:∃ro,decide (mk≠0)=ro:=⟨_,rfl⟩;have a9:((mk:Int)!=0)=ro:=by rw[<-a0,Bool.eq_iff_iff];simp
  have b7:=HI (show decide (gN l 11 1≠0)=ro by rw[Z];exact a0);have B:=q7j P (show f<w4.1.size from a5) (j:=1) (.bool ro);have W:=q3i w5 f 1 (.bool ro);have V6:=V5.set1 ro;have Z6:=Z5.below W (by omega);have B6:=B5.trans (W.mono (by omega));have z6:(w5.setCell ⟨f,1,none⟩ (.bool ro)).1.size=w5.1.size:=World.size_setCell ..;clear a0 Z;go_wp2_with fail
  clear P W v5 f5 V5 Z5 B5 a9 Y V4 Z4 B4 z4;have e5:=H.size;have a6:f<(w5.setCell ⟨f,1,none⟩ (.bool ro)).1.size:=by omega
  have d4:w4.1.size<=(w5.setCell ⟨f,1,none⟩ (.bool ro)).1.size:=by omega
  generalize w5.setCell ⟨f,1,none⟩ (.bool ro)=w6 at B V6 Z6 B6 z6 a6 d4 ⊢;refine (Dy (l0:=l) 12 2 n5 B.sl 2 rfl (by omega) (by omega) (by omega) (by omega)).mono ?_;rintro e w7 ⟨A7,n7,c7,rfl,Q,e0,I⟩;have V7:=V6.below I V6.lt;have Z7:=Z6.below I Z6.lt;have B7:=B6.trans (I.mono B6.size);have v7:=V7.c2;have f7:=V7.fz 2;have D:=q7j Q (show f<w6.1.size from a6) (j:=2) (.int .i64 (gN l 12 2:Int));have X:=q3i w7 f 2 (.int .i64 (gN l 12 2:Int));have V8:=V7.set2 (gN l 12 2:Int);have Z8:=Z7.below X (by omega);have B8:=B7.trans (X.mono (by omega));have z8:(w7.setCell ⟨f,2,none⟩ (.int .i64 (gN l 12 2:Int))).1.size=w7.1.size:=World.size_setCell ..;go_wp2_with fail
  clear Q X v7 f7 V7 Z7 B7 B V6 Z6 B6 z6;have e6:=I.size;have a7:f<(w7.setCell ⟨f,2,none⟩ (.int .i64 (gN l 12 2:Int))).1.size:=by omega
  generalize w7.setCell ⟨f,2,none⟩ (.int .i64 (gN l 12 2:Int))=w8 at D V8 Z8 B8 z8 a7 ⊢;refine (Dy (l0:=l) 14 4 n7 D.sl 4 rfl (by omega) (by omega) (by omega) (by omega)).mono ?_;rintro e w9 ⟨A9,n9,c9,rfl,R,e1,J⟩;have V9:=V8.below J V8.lt;have Z9:=Z8.below J Z8.lt;have B9:=B8.trans (J.mono B8.size);have v9:=V9.c3;have f9:=V9.fz 3;have a1:=q7j R (show f<w8.1.size from a7) (j:=3) (.int .i64 (gN l 14 4:Int));have u:=q3i w9 f 3 (.int .i64 (gN l 14 4:Int));have E:=V9.Qc1 (gN l 14 4:Int);have d0:=Z9.below u (by omega);have b4:=B9.trans (u.mono (by omega));have u0:=E.c0;have u1:=E.c1;have u2:=E.c2;have u3:=E.c3;have e7:=J.size;have e2:w.1.size<w8.1.size:=by omega
  clear R u V9 Z9 B9 D V8 Z8 B8 z8;go_wp2_with (first
   |(refine qhp rfl _ _ rfl w.1.size rfl ⟨nm,ro,(gN l 12 2:Int),(gN l 14 4:Int)⟩ Vl.zero rfl d0 ?_;intro d5 b9 a3 b8)
   |fail)
  have a2:=a1.turn (w':=d5) λg hg hl=>b8.block g hl (by show ¬g=w.1.size;omega)
  have b5:=b4.trans (a3 _ (AE _));have d3:I9 l=⟨nm,ro,(gN l 12 2:Int),(gN l 14 4:Int)⟩:=by unfold I9;rw[b6.out,b7.out]
  refine bodyPost_ret (q1u Tryz.results132 rfl (qxz b9)) rfl ?_;rw[d3];exact⟨A9,n9,c9,rfl,a2.less (by omega),⟨by omega,by omega⟩,b5⟩
section
def Vz (g:Int)(l:LU)(k:Nat):Sp:=⟨g,(gN l 0 2:Int),(gN l 2 2:Int),(List.range 8).map (λi=>if i<k then I9 (l.drop (4+18*i)) else Vl.zero),by simp⟩
def rdS (g:Int)(l:LU):Sp:=Vz g l 8
def sp0 (g a b:Int):Sp:=⟨g,a,b,List.replicate 8 Vl.zero,rfl⟩
theorem qls (g:Int)(l:LU):Vz g l 0=sp0 g (gN l 0 2:Int) (gN l 2 2:Int):=rfl
theorem qlt (g:Int)(l:LU){k:Nat}(_:k<8):(Vz g l k).Ph k (I9 (l.drop (4+18*k)))=Vz g l (k+1):=by
 refine Sp.ext' rfl rfl rfl ?_;show (((List.range 8).map (λi=>if i<k then I9 (l.drop (4+18*i)) else Vl.zero)).set k (I9 (l.drop (4+18*k))))=(List.range 8).map (λi=>if i<k+1 then I9 (l.drop (4+18*i)) else Vl.zero);refine List.ext_getElem (by simp) λi h1 h2=>?_
 have hi:i<8:=by simpa using h2
 rw[List.getElem_set];by_cases h:k=i
 ·subst h;simp
 ·rw[AB h];simp only[List.getElem_map,List.getElem_range];by_cases d:i<k
  ·rw[AA d,AA (by omega)]
  ·rw[AB d,AB (by omega)]
theorem qsu (g:Int)(l:LU)(k:Nat){i:Nat}(hi:i<8):(Vz g l k).at_ i=if i<k then I9 (l.drop (4+18*i)) else Vl.zero:=by
 have h:=(Vz g l k).get hi;have h2:(Vz g l k).Jq[i]?=some (if i<k then I9 (l.drop (4+18*i)) else Vl.zero):=by
  show ((List.range 8).map (λi=>if i<k then I9 (l.drop (4+18*i)) else Vl.zero))[i]?=_;rw[BA,List.getElem?_range hi];rfl
 rw[h] at h2;exact OI h2
theorem qsv (g:Int)(l:LU):(rdS g l).fine:=λk d=>by
 unfold rdS;rw[qsu g l 8 d,AA d];have:=qst (l.drop (4+18*k));unfold maxLen;show (rdN _).size<=_;omega
theorem SB.set1 {w:WD}{b:Nat}{S:Sp}(H:SB w b S)(x:Int):SB (w.setCell ⟨b,1,none⟩ (.int .i64 x)) b ⟨S.gen,x,S.log,S.Jq,S.len⟩:=by
 obtain⟨t,H⟩:=H;exact⟨t,heap_setCell_same w b 1 _ t _ H⟩
theorem SB.set2 {w:WD}{b:Nat}{S:Sp}(H:SB w b S)(x:Int):SB (w.setCell ⟨b,2,none⟩ (.int .i64 x)) b ⟨S.gen,S.Qa,x,S.Jq,S.len⟩:=by
 obtain⟨t,H⟩:=H;exact⟨t,heap_setCell_same w b 2 _ t _ H⟩
theorem qhs {e:Array Oper}{d:List Oper}{o:Oper}{a:Act}{w:WD}{Q:Exit->Act->WD->Prop}(p:o.guard=none)(x y:Operand)(g:o.op=Op.store 58 x y)
  (b k:Nat) (u:k<8) (A:a.eval x=.pointer (some ⟨b,3+k*4,none⟩)) (v:Vl) (S:Sp) (D:a.eval y=v.v) (H:SB w b S)
  (m:∀f,SB f b (S.Ph k v)->(∀B,B<=b->Below B w f)->Turn (λk=>k=b) w f->wpList prog e Q d (a.put o.dst undef) f):wpList prog e Q (o::d) a w:=
 qho p x y g b k u (by rw[A,Nat.mul_comm]) v S D H m
def alS (h:Bool)(old:Value):Sem Value:=Instr.alloc 61 h old
theorem q6n (h:Bool)(old:Value):Instr.alloc 61 h old=alS h old:=rfl
def bdS (parts:Array (Nat × Value)):Sem Value:=Instr.build 61 parts
theorem q93 (parts:Array (Nat × Value)):Instr.build 61 parts=bdS parts:=rfl
theorem qdy (h:Bool)(w:WD):(alS h (.tuple #[])).run prog w=.ok (.pointer (some ⟨w.1.size,0,none⟩)) (w.alloc (.cells Sp.zero.vs.toArray 61)):=by
 cases h
 ·show (Instr.alloc 61 false (.tuple #[])).run prog w=_;kernel_rfl
 ·show (Instr.alloc 61 true (.tuple #[])).run prog w=_;kernel_rfl
theorem qjk (w:WD):(bdS #[]).run prog w=.ok (.agg Sp.zero.vs.toArray) w:=by
 show (Instr.build 61 #[]).run prog w=_;kernel_rfl
theorem qwc (g:Int)(w:WD):(bdS #[(0,.int .i64 g)]).run prog w=.ok (.agg (sp0 g 0 0).vs.toArray) w:=by
 show (Instr.build 61 #[(0,.int .i64 g)]).run prog w=_;kernel_rfl
attribute [local go_sem ↓] q25 q6m q6n q93
theorem qdz (g:Int)(A:OA)(n c:Nat)(l:LU)(w:WD)(hs:Sl w A n c l)(hn:148<=n)(d2:n<=1000) :
  Calls prog 99 #[.int .i64 g,.slice A n c] w λe w'=>e=.returned (.agg (rdS g l).vs.toArray)/\Below w.1.size w w':=by
 have a6:=qdy;have a7:=qwc g;have Z1:=SB.new w Sp.zero 61;have b1:Below w.1.size w (w.alloc (.cells Sp.zero.vs.toArray 61)):=Ql;have z1:(w.alloc (.cells Sp.zero.vs.toArray 61)).1.size=w.1.size+1:=by simp
 have H2:=SB.new (w.alloc (.cells Sp.zero.vs.toArray 61)) Sp.zero 61;rw[z1] at H2;go_enter func99,ntmps99
 go_wp2_with (first
  |(refine Es rfl _ _ rfl (w.1.size+1) rfl (sp0 g 0 0) Sp.zero rfl H2 ?_;intro w3 R X T3)
  |fail)
 have b2:Below (w.alloc (.cells Sp.zero.vs.toArray 61)).1.size (w.alloc (.cells Sp.zero.vs.toArray 61)) ((w.alloc (.cells Sp.zero.vs.toArray 61)).alloc (.cells Sp.zero.vs.toArray 61)):=Ql;rw[z1] at b2;have b3:=b2.trans (X _ (AE _));have Z3:=Z1.below b3 (by omega);have B3:=b1.trans (b3.mono (by omega));obtain⟨d,Y⟩:∃d,w.1.size+1=d:=⟨_,rfl⟩;rw[Y] at R ⊢;have b6:w.1.size<d:=by omega
 have a3:=hs.below B3;clear Z1 b1 z1 H2 X T3 b2 b3 Y a6 a7;refine (Dy (l0:=l) 0 2 n a3 2 rfl (by omega) (by omega) (by omega) (by omega)).mono ?_;rintro e w4 ⟨A4,n4,c4,rfl,E,a9,f⟩;have H4:=R.below f R.lt;have Z4:=Z3.below f Z3.lt;have B4:=B3.trans (f.mono B3.size);have q4:=H4.c1;have f4:=H4.fz 1;obtain⟨I,O⟩:∃I:Int,(gN l 0 2:Int)=I:=⟨_,rfl⟩;rw[O];have F:=q7j E (show d<w3.1.size from R.lt) (j:=1) (.int .i64 I);have J:=q3i w4 d 1 (.int .i64 I);have T:=H4.set1 I;have Z5:=Z4.below J (by omega);have B5:=B4.trans (J.mono (by omega));have z5:(w4.setCell ⟨d,1,none⟩ (.int .i64 I)).1.size=w4.1.size:=World.size_setCell ..;go_wp2_with fail
 clear E J q4 f4 H4 Z4 B4 R Z3 B3 a3;have b7:=f.size;generalize w4.setCell ⟨d,1,none⟩ (.int .i64 I)=w5 at F T Z5 B5 z5 ⊢;refine (Dy (l0:=l) 2 2 n4 F.sl 2 rfl (by omega) (by omega) (by omega) (by omega)).mono ?_;rintro e Q ⟨A6,n6,c6,rfl,G,b0,D⟩;have H6:=T.below D T.lt;have Z6:=Z5.below D Z5.lt;have B6:=B5.trans (D.mono B5.size);have q6:=H6.c2;have f6:=H6.fz 2;obtain⟨B,P⟩:∃B:Int,(gN l 2 2:Int)=B:=⟨_,rfl⟩;rw[P];have u:=q7j G (show d<w5.1.size from T.lt) (j:=2) (.int .i64 B);have K:=q3i Q d 2 (.int .i64 B);have U:=H6.set2 B;have Z7:=Z6.below K (by omega);have B7:=B6.trans (K.mono (by omega));have z7:(Q.setCell ⟨d,2,none⟩ (.int .i64 B)).1.size=Q.1.size:=World.size_setCell ..;go_wp2_with fail
 clear G K q6 f6 H6 Z6 B6 T Z5 B5;have d3:n6+4<=n/\n<=n6+4:=by omega
 have e7:∀H:Sp,SB (Q.setCell ⟨d,2,none⟩ (.int .i64 B)) d H->H=sp0 g I B->SB (Q.setCell ⟨d,2,none⟩ (.int .i64 B)) d (Vz g l 0):=λH h e=>by
  rw[qls,O,P,<-e];exact h
 have U:=e7 _ U rfl;generalize Q.setCell ⟨d,2,none⟩ (.int .i64 B)=w7 at u U Z7 B7 z7 e7 ⊢;have a5:Sl w7 A6 n6 c6 (l.drop (4+18*0)):=u.sl;clear e7 u D f O P z7 z5 b0 a9 b7;go_loopw [1,23] (λb i wr=>∃(k m:Nat) (A:OA) (c:Nat),k<=8/\n<=m+4+18*k/\m<=n/\b=.slice A m c/\i=.int .i64 (k:Int)/\Sl wr A m c (l.drop (4+18*k))/\SB wr d (Vz g l k)/\SB wr w.1.size Sp.zero/\Below w.1.size w wr) (λ_ i _=>8-(intOf i).toNat)
 case atStart=>exact⟨0,n6,A6,c6,by omega,by omega,by omega,rfl,rfl,a5,U,Z7,B7⟩
 case round=>
  clear a5 U Z7 B7;obtain⟨k,m,A,c,hk,d0,d1,rfl,rfl,sl,H,Z,hB⟩:=hrel;by_cases a0:k<8
  ·have b8:(0:Int)<=(k:Int):=by omega
   have a2:=HI (qlt g l a0);go_wp2_with fail
   refine (qhr A m c _ wr sl (by omega) (by omega)).mono ?_;rintro e w8 ⟨A8,n8,c8,rfl,y,b4,M⟩;have H8:=H.below M H.lt;have Z8:=Z.below M Z.lt;have B8:=hB.trans (M.mono hB.size);rw[List.drop_drop,show 4+18*k+18=4+18*(k+1) by omega] at y;have c9:=H.lt;have b5:n<=n8+4+18*(k+1):=by omega
   have a1:n8<=n:=by omega
   clear H Z hB sl b4;obtain⟨v,hv⟩:∃v,I9 (l.drop (4+18*k))=v:=⟨_,rfl⟩;have W:=HI (show (Vz g l k).Ph k v=Vz g l (k+1) by rw[<-hv];exact a2.out);rw[hv];clear hv a2;go_wp2_with (first
    |(refine qhs rfl _ _ rfl d k a0 rfl v (Vz g l k) rfl H8 ?_;intro w9 H9 p T9)
    |fail)
   rw[W.out] at H9;have a4:=y.turn (w':=w9) λq hq hl=>T9.block q hl (by show ¬q=d;omega)
   have Z9:=Z8.below (p d (AE _)) b6;have B9:=B8.trans (p _ (by omega));clear W H8 Z8 B8 y T9 p;go_wp2;exact⟨⟨k+1,n8,A8,c8,by omega,b5,a1,rfl,by go_num,a4.sl,H9,Z9,B9⟩,by simp[intOf];omega⟩
  ·have a8:k=8:=by omega
   subst a8;have H:SB wr d (rdS g l):=H;have b9:=H.ld;go_wp2_with (first
    |(refine Es rfl _ _ rfl w.1.size rfl (rdS g l) Sp.zero rfl Z ?_;intro w9 H9 p T9)
    |fail)
   refine bodyPost_ret (q2n Tryz.results99 rfl (q4h H9)) rfl ?_;exact⟨rfl,hB.trans (p _ (AE _))⟩
end
section
def Df (S:Sp)(slot:Int):Hd:=⟨1,slot,0,0,S.gen⟩
def Yk (S:Sp)(slot:Int):Bool:=S.may&&decide (0<=slot/\slot<=1)
def swE (S:Sp)(slot:Int):Int:=if Yk S slot=true then 0 else 1
def swB (S:Sp)(slot:Int):LU:=if Yk S slot=true then Zk (Df S slot) (Zy S) else []
theorem Tq {S:Sp}(h:S.may=true):(1<=S.gen/\S.gen<=1099511627775/\32<=S.Qa/\S.Qa<=2048/\0<=S.log/\S.log<=S.Qa-1)/\∀j,j<8->S.ok1 j=true:=by
 unfold Sp.may at h;rw[BN] at h;exact⟨AK h.1,λj d=>List.all_eq_true.1 h.2 j (List.mem_range.2 d)⟩
theorem qjl {s:ByteArray}(h:Di s=true):1<=s.size/\s.size<=10:=by
 unfold Di at h;rw[BN] at h;exact AK h.2
theorem qfh {S:Sp}{j:Nat}(h:S.ok1 j=true):S.at_ j=Vl.zero\/(Di (S.at_ j).name=true/\(0<=(S.at_ j).root/\(S.at_ j).root<=S.Qa-1)/\(2<=(S.at_ j).next/\(S.at_ j).next<=2147483647)):=by
 unfold Sp.ok1 at h;rw[Bool.or_eq_true] at h;rcases h with h|h
 ·exact .inl ((Vl.same_iff _ _).1 h)
 ·rw[BN] at h;have h:=h.1;unfold Vl.ok at h;rw[BN,BN] at h;exact .inr ⟨h.1,AK h.2.1,AK h.2.2⟩
theorem q6o {S:Sp}(h:S.may=true):∀j,j<8->(S.at_ j).name.size<=10:=λj d=>by
 rcases qfh ((Tq h).2 j d) with e|⟨h,_⟩
 ·rw[e];show 0<=10;omega
 ·exact (qjl h).2
theorem qo8 {S:Sp}{slot:Int}(h:Yk S slot=true):(Df S slot).ok=true:=by
 unfold Yk at h;rw[BN] at h;have h1:=(Tq h.1).1;have h2:=AK h.2;refine AL ⟨⟨?_,?_⟩,⟨?_,?_⟩,⟨?_,?_⟩,⟨?_,?_⟩,?_,?_⟩<;>(dsimp only[Df];omega)
theorem qa2 {S:Sp}(h:S.may=true):(Zy S).length=148:=J6 S 8 (by omega) (q6o h)
theorem qjm {S:Sp}{slot:Int}(h:Yk S slot=true):swE S slot=0/\swB S slot=Zk (Df S slot) (Zy S)/\Xb (Df S slot) (Zy S)=0/\Xi (Df S slot) (Zy S)=Zk (Df S slot) (Zy S):=by
 have hm:S.may=true:=by unfold Yk at h;rw[BN] at h;exact h.1
 have d:=qa2 hm;unfold swE swB Xb Xi;rw[AA h,AA h,AA (qo8 h),AA (by omega),AA (qo8 h),AA (by omega)];exact⟨rfl,rfl,rfl,rfl⟩
theorem qwd {S:Sp}{slot:Int}(h:Yk S slot=false):swE S slot=1/\swB S slot=[]:=by
 unfold swE swB;rw[h];exact⟨rfl,rfl⟩
attribute [local go_sem ↓] q25 q6m
theorem q7k (S:Sp)(slot:Int)(hf:S.fine)(w:WD)(ht:Tab w) :
  Calls prog 40 #[.agg S.vs.toArray,.int .i64 slot] w λe f=>
   ∃R n' T,e=.returned (.tuple #[.slice R n' T,.int .i64 (swE S slot)])/\Own f w.1.size 5 R n' T (swB S slot)/\(Yk S slot=true->∃g,R=some ⟨g,0,none⟩/\n'=256/\T=256)/\Below w.1.size w f:=by
 have G:=SB.new w S 61;have P:Below w.1.size w (w.alloc (.cells S.vs.toArray 61)):=Ql;have Q:=ht.below P ht.1;have J:=G.ld;obtain⟨m,hm⟩:∃m,S.may=m:=⟨_,rfl⟩;go_enter func40,ntmps40
 go_wp2_with fail
 generalize w.alloc (.cells S.vs.toArray 61)=w1 at G P J Q ⊢;refine (qss S m hm hf w1).mono ?_;rintro e d ⟨rfl,A⟩;have H:=G.below A G.lt;have F:=P.trans (A.mono P.size);have t2:=Q.below A Q.1;have a2:=H.ld;have q2:=H.c0;clear G J A Q
 cases m
 ·obtain⟨h1,h2⟩:=qwd (S:=S) (slot:=slot) (by unfold Yk;rw[hm];rfl);have B:Yk S slot=false:=by unfold Yk;rw[hm];rfl
  go_wp2;go_ret2;rw[h1,h2,B];exact⟨_,_,_,rfl,q2x _ _ _,λh=>(by cases h),F⟩
 ·go_wp2_with fail
  by_cases y:0<=slot/\slot<=1
  ·have D:Yk S slot=true:=by unfold Yk;rw[hm,AL y];rfl
   obtain⟨h1,h2,h3,h4⟩:=qjm D;have U:=HI h1;have W:=HI h2;have a4:=HI D;refine (Px slot 0 1 true (AL y) _).mono ?_;rintro e O ⟨rfl,rfl⟩;go_wp2_with fail
   have X:∀f:WD,Below d.1.size d f->f.cell? ⟨w.1.size,0,none⟩=some (.int .i64 S.gen)/\(ldS (.pointer (some ⟨w.1.size,0,none⟩))).run prog f=.ok (.agg S.vs.toArray) f/\Below d.1.size d f:=
    λf Y=>⟨(Y.cell (p:=⟨w.1.size,0,none⟩) H.lt).trans q2,(H.below Y H.lt).ld,Y⟩
   have BD:Below d.1.size d d.drew:=(AI _ _).drew;have zd:d.1.size<=d.drew.1.size:=AE _;have a3:=q6o hm;clear y h1 h2 a2 D;go_region_held3 (λf=>f.cell? ⟨w.1.size,0,none⟩=some (.int .i64 S.gen)/\(ldS (.pointer (some ⟨w.1.size,0,none⟩))).run prog f=.ok (.agg S.vs.toArray) f/\Below d.1.size d f)
    (first|assumption|exact X _ BD|exact X _ u|exact X _ I)
    (first
     |(go_at_call 69;refine (qo7 S a3 _).mono ?_;rintro e O ⟨A3,n3,c3,rfl,E,Z⟩;have K:Own O d.1.size 5 A3 n3 c3 _:=E;have u:Below d.1.size d O:=BD.trans (Z.mono zd))
     |(go_at_call 37;refine (q5p (Df S slot) A3 n3 c3 _ O K.sl (t2.below u t2.1)).mono ?_;rw[h3,h4];rintro e w4 ⟨A4,n4,c4,rfl,M,a1,a0⟩;have I:Below d.1.size d w4:=u.trans (a0.mono (Below.size u)))
     |fail)
   go_wp2;go_ret2;rw[U.out,W.out];exact⟨_,_,_,rfl,(M.less (Below.size u)).less F.size,λ_=>a1 (by first|trivial|rfl),F.trans (I.mono F.size)⟩
  ·have B:Yk S slot=false:=by unfold Yk;rw[hm,AH y];rfl
   obtain⟨h1,h2⟩:=qwd B;refine (Px slot 0 1 false (AH y) _).mono ?_;rintro e O ⟨rfl,rfl⟩;go_wp2;go_ret2;rw[h1,h2,B];exact⟨_,_,_,rfl,q2x _ _ _,λh=>(by cases h),F⟩
end
