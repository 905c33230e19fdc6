/- Superblocks: the code's body and Write -/
import Derived.Test.YtnjacafcocnicaaGreatDoorDv12
namespace Go.Proofs.YtnjacafcocnicaaGreatDoor
open Go Go.RowKit Go.Proofs Tryz
set_option maxHeartbeats 4000000
set_option maxRecDepth 100000
section
def ldS (p:Value):Sem Value:=Instr.loadAt 103 p
theorem q1w (p:Value):Instr.loadAt 103 p=ldS p:=rfl
def ldA (p:Value):Sem Value:=Instr.loadAt 101 p
theorem q6z (p:Value):Instr.loadAt 101 p=ldA p:=rfl
theorem SB.ld {w:WD}{b:Nat}{S:Sp}(H:SB w b S):(ldS (.pointer (some ⟨b,0,none⟩))).run prog w=.ok (.agg S.vs.toArray) w:=Qcn H
theorem SB.lda {w:WD}{b:Nat}{S:Sp}(H:SB w b S):(ldA (.pointer (some ⟨b,3,none⟩))).run prog w=.ok (.agg (S.Jl.flatMap Vl.vs).toArray) w:=Qco H
attribute [local go_sem ↓] q1w q6z
def Jd (S:Sp):LU:=Zy S 8
theorem qq2 (S:Sp)(hv:∀j,j<8->(S.at_ j).name.size<=10)(w:WD) :
  Calls prog 145 #[.agg S.vs.toArray] w λe w'=>∃U X V,e=.returned (.slice U X V)/\Own w' w.1.size 5 U X V (Jd S)/\Below w.1.size w w':=by
 have y:=SB.new w S 103;have K:Below w.1.size w (w.alloc (.cells S.vs.toArray 103)):=Qi;have Z:=y.c1;go_enter func145,ntmps145
 go_wp2_with fail
 generalize w.alloc (.cells S.vs.toArray 103)=w1 at y K Z ⊢;refine (q7y none 0 0 [] S.Qb 2 _ (Il _) (by omega) (by omega) (by omega)).mono ?_;rintro e w2 ⟨A2,n2,c2,rfl,p,a2,B⟩;have I:=y.below B y.lt;have J:=K.trans (B.mono K.size);have q2:=I.c2;clear Z;go_wp2_with fail
 refine (q7y A2 n2 c2 _ S.log 2 _ p.sl (by omega) (by omega) (by omega)).mono ?_;rintro e w3 ⟨A3,n3,c3,rfl,f,a6,D⟩;have H3:=I.below D I.lt;have B3:=J.trans (D.mono J.size);have q3:=H3.lda;have e3:[]++Qx S.Qb (2:Int).toNat++Qx S.log (2:Int).toNat=Zy S 0:=by rw[qae];rfl
 rw[e3] at f;have f:=f.less J.size;clear q2 y I p;go_wp2_with fail
 go_loopw [3,15] (λb i wr=>∃(k:Nat) (A:OA) (n c:Nat),k<=8/\n<=4+18*k/\b=.slice A n c/\i=.int .i64 (k:Int)/\Own wr w.1.size 5 A n c (Zy S k)/\Below w.1.size w wr) (λ_ i _=>8-(intOf i).toNat)
 case atStart=>exact⟨0,A3,n3,c3,by omega,by omega,rfl,rfl,f,B3⟩
 case round=>
  obtain⟨k,A,n,c,hk,hn,rfl,rfl,own,O⟩:=hrel;by_cases u:k<8
  ·have Q:=qBn S u;have a1:(0:Int)<=(k:Int):=by omega
   have F:=HI (qaf S u);have G:=hv k u;obtain⟨x,W⟩:∃x,S.at_ k=x:=⟨_,rfl⟩;rw[W] at Q G F;clear W;go_wp2_with fail
   have M:Below wr.1.size wr (wr.alloc (.cells #[.string x.name,.bool x.ro,.int .i64 x.root,.int .i64 x.next] 100)):=Qi;have H:=own.below M;have m:=O.trans (M.mono O.size);generalize wr.alloc (.cells #[.string x.name,.bool x.ro,.int .i64 x.root,.int .i64 x.next] 100)=wx at M H m ⊢;refine (qno x G A n c _ wx H.sl (by omega)).mono ?_;rintro e w5 ⟨A5,Y,c5,rfl,q,T,P⟩;rw[<-F.out] at q;have E:Y<=4+18*(k+1):=by omega
   clear T;go_wp2;exact⟨⟨k+1,A5,Y,c5,by omega,E,rfl,by go_num,q.less m.size,m.trans (P.mono m.size)⟩,by simp[intOf];omega⟩
  ·have R:k=8:=by omega
   rw[R] at own;go_wp2;go_ret;exact⟨_,_,_,rfl,own,O⟩
end
def rdN (l:LU):ByteArray:=⟨((l.drop 1).take (min (gN l 0 1) 10)).toArray⟩
def Og (l:LU):Vl:=⟨rdN l,decide (gN l 11 1≠0),(gN l 12 2:Int),(gN l 14 4:Int)⟩
theorem qv7 (l:LU):(rdN l).size<=10:=by
 unfold rdN;show (List.take _ _).toArray.size<=10;rw[List.size_toArray,AR];omega
theorem Fe {l0:LU}(p m n:Nat){A:OA}{c:Nat}{w:WD}(h:Sl w A n c (l0.drop p))(B:Int)(H:B=(m:Int))(h1:1<=m)(I:m<=7)(hn:m<=n)(G:n<=100000) :
  Calls prog 154 #[.slice A n c,.int .i64 B] w λe y=>∃q f u,e=.returned (.tuple #[.int .i64 (gN l0 p m),.slice q f u,.int .i64 0])/\Own y w.1.size 5 q f u (l0.drop (p+m))/\(f+m<=n/\n<=f+m)/\Below w.1.size w y:=by
 refine (q5n A n c _ B w h (by omega) (by omega) (by omega) (by omega)).mono ?_;rintro e y ⟨q,f,u,rfl,own,D⟩;subst H;rw[AJ,List.drop_drop] at own;rw[AJ];have E:=own.len;have F:=h.len;rw[AS] at E F;exact⟨q,f,u,rfl,own,⟨by omega,by omega⟩,D⟩
theorem Own.some_ {w:WD}{base n c:Nat}{e:TypeId}{A:OA}{l:LU}(h:Own w base e A n c l)(h0:0<n):∃g,A=some ⟨g,0,none⟩:=by
 rcases h.2 with⟨f,rfl⟩|⟨g,cap,m,f,_⟩
 ·omega
 ·injection f with p;exact⟨g,p⟩
theorem VB.set0 {w:WD}{b:Nat}{v:Vl}(H:VB w b v)(s:ByteArray):VB (w.setCell ⟨b,0,none⟩ (.string s)) b ⟨s,v.ro,v.root,v.next⟩:=by
 obtain⟨t,H⟩:=H;exact⟨t,heap_setCell_same w b 0 _ t _ H⟩
theorem VB.set1 {w:WD}{b:Nat}{v:Vl}(H:VB w b v)(x:Bool):VB (w.setCell ⟨b,1,none⟩ (.bool x)) b ⟨v.name,x,v.root,v.next⟩:=by
 obtain⟨t,H⟩:=H;exact⟨t,heap_setCell_same w b 1 _ t _ H⟩
theorem VB.set2 {w:WD}{b:Nat}{v:Vl}(H:VB w b v)(x:Int):VB (w.setCell ⟨b,2,none⟩ (.int .i64 x)) b ⟨v.name,v.ro,x,v.next⟩:=by
 obtain⟨t,H⟩:=H;exact⟨t,heap_setCell_same w b 2 _ t _ H⟩
theorem VB.Qdb {w:WD}{b:Nat}{v:Vl}(H:VB w b v)(x:Int):VB (w.setCell ⟨b,3,none⟩ (.int .i64 x)) b ⟨v.name,v.ro,v.root,x⟩:=by
 obtain⟨t,H⟩:=H;exact⟨t,heap_setCell_same w b 3 _ t _ H⟩
theorem q7z {w:WD}{b base n c j:Nat}{e:TypeId}{A:OA}{l:LU}(own:Own w base e A n c l)(f:b<base)(x:Value):Own (w.setCell ⟨b,j,none⟩ x) base e A n c l:=
 own.turn λg m _=>Below.heap_setCell _ _ _ _ (by show g≠b;omega)
theorem q3p (w:WD)(b j:Nat)(x:Value):Below b w (w.setCell ⟨b,j,none⟩ x):=(AI _ w).setCell (p:=⟨b,j,none⟩) (AE _) _
theorem q1x {q:Func}{p a:Tmp}{ty:TypeId}{m:Addr}{v:Value}{P:Program}{w:WD}{f:Array Value}(h:q.results=#[.cell p ty,.tmp a])(y:f.getD p undef=.pointer (some m))(u:(loadVar ty m).run P w=.ok v w) :
  (results q f).run P w=.ok (.tuple #[v,f.getD a undef]) w:=by
 have e:(results q f).run P w=((asAddr (f.getD p undef)).run P w).andThen λm A=>((loadVar ty m).run P A).andThen λv B=>.ok (.tuple #[v,f.getD a undef]) B:=by
  simp only[results,h];simp[Sem.run_bind,Result.andThen]
 rw[e,y];simp[asAddr,u]
theorem qj3 (A:OA)(n c:Nat)(l:LU)(w:WD)(hs:Sl w A n c l)(hn:18<=n)(d9:n<=1000) :
  Calls prog 200 #[.slice A n c] w λe w'=>
   ∃A' n' c',e=.returned (.tuple #[(Og l).v,.slice A' n' c'])/\Own w' w.1.size 5 A' n' c' (l.drop 18)/\(n'+18<=n/\n<=n'+18)/\Below w.1.size w w':=by
 have Z1:VB (w.alloc (.cells #[.string ⟨#[]⟩,.bool false,.int .i64 0,.int .i64 0] 100)) w.1.size Vl.zero:=VB.new w Vl.zero _;have b1:Below w.1.size w (w.alloc (.cells #[.string ⟨#[]⟩,.bool false,.int .i64 0,.int .i64 0] 100)):=Qi;have z1:(w.alloc (.cells #[.string ⟨#[]⟩,.bool false,.int .i64 0,.int .i64 0] 100)).1.size=w.1.size+1:=by simp
 go_enter func200,ntmps200
 go_wp2_with fail
 generalize w.alloc (.cells #[.string ⟨#[]⟩,.bool false,.int .i64 0,.int .i64 0] 100)=T at Z1 b1 z1 ⊢;rw[<-z1];have V2:VB (T.alloc (.cells #[.string ⟨#[]⟩,.bool false,.int .i64 0,.int .i64 0] 100)) T.1.size Vl.zero:=VB.new T Vl.zero _;have b2:Below T.1.size T (T.alloc (.cells #[.string ⟨#[]⟩,.bool false,.int .i64 0,.int .i64 0] 100)):=Qi;generalize T.alloc (.cells #[.string ⟨#[]⟩,.bool false,.int .i64 0,.int .i64 0] 100)=w2 at V2 b2 ⊢;have Z2:=Z1.below b2 (by omega);have B2:=b1.trans (b2.mono b1.size);obtain⟨p,a7⟩:∃p,T.1.size=p:=⟨_,rfl⟩;rw[a7] at V2 ⊢;have e5:w.1.size<p:=by omega
 clear Z1 b1 b2 z1 a7;refine (Fe (l0:=l) 0 1 n (hs.below B2) 1 rfl (by omega) (by omega) (by omega) (by omega)).mono ?_;rintro e q ⟨A3,n3,c3,rfl,f,e0,G⟩;have V3:=V2.below G V2.lt;have Z3:=Z2.below G Z2.lt;have B3:=B2.trans (G.mono B2.size);have b4:=V2.lt;obtain⟨m,hm⟩:∃m,gN l 0 1=m:=⟨_,rfl⟩;have y:=HI (show rdN l=⟨((l.drop 1).take (min m 10)).toArray⟩ by unfold rdN;rw[hm]);rw[hm];clear hm Z2 V2;have v3:=V3.c0;have f3:=V3.fz 0;have f:Own q w2.1.size 5 A3 n3 c3 (l.drop 1):=f;have d8:=f.sl.cap;have d3:=f.sl.max;unfold maxLen at d3;obtain⟨g3,d4⟩:=f.some_ (by omega);subst d4;obtain⟨nm,K⟩:∃nm,rdN l=nm:=⟨_,rfl⟩;have c6:=HI K;have b6:m<=10->(convert 48 9 (.slice (some ⟨g3,0,none⟩) m c3)).run prog q=.ok (.string nm) q:=λh=>by
  have:=q9l (f.sl.take (k:=m) (by omega));rw[this,<-K,y.out,Nat.min_eq_left h]
 have b7:10<m->(convert 48 9 (.slice (some ⟨g3,0,none⟩) 10 c3)).run prog q=.ok (.string nm) q:=λh=>by
  have:=q9l (f.sl.take (k:=10) (by omega));rw[this,<-K,y.out,Nat.min_eq_right (by omega)]
 have F:=f.sl.drop (k:=10) (by omega);rw[AB (by omega),List.drop_drop] at F;have F:Sl q (some ⟨g3,10,none⟩) (n3-10) (c3-10) (l.drop 11):=F;have i1:(10:Nat)<=c3:=by omega
 have i2:¬c3=10:=by omega
 clear K y;rcases (by omega:m<=10\/10<m) with hm|hm
 all_goals
  have i3:((m:Int)<=10)=(m<=10):=by rw[eq_iff_iff];omega
  first|(have M:=b6 hm;have i4:(m:Int)<=10:=by omega)|(have M:=b7 hm;have i4:¬(m:Int)<=10:=by omega)
  have i5:(0:Int)<=(m:Int):=by omega
  have i6:m<=10->m<=c3:=by omega
  clear b6 b7 i3;have O:=q7z f (show p<w2.1.size from b4) (j:=0) (.string nm);have U:=q3p q p 0 (.string nm);have X:Sl (q.setCell ⟨p,0,none⟩ (.string nm)) (some ⟨g3,10,none⟩) (n3-10) (c3-10) (l.drop 11):=by
   have:=O.sl.drop (k:=10) (by omega);rw[AB (by omega),List.drop_drop] at this;exact this
  have V4:=V3.set0 nm;have Z4:=Z3.below U (by omega);have B4:=B3.trans (U.mono (by omega));have z4:(q.setCell ⟨p,0,none⟩ (.string nm)).1.size=q.1.size:=World.size_setCell ..;go_wp2_with fail
  clear M O U F v3 f3 V3 Z3 B3 f;have e6:=G.size;have a8:p<(q.setCell ⟨p,0,none⟩ (.string nm)).1.size:=by omega
  generalize q.setCell ⟨p,0,none⟩ (.string nm)=w4 at X V4 Z4 B4 z4 a8 ⊢;refine (Fe (l0:=l) 11 1 (n3-10) X 1 rfl (by omega) (by omega) (by omega) (by omega)).mono ?_;rintro e w5 ⟨A5,n5,c5,rfl,P,e1,H⟩;have V5:=V4.below H V4.lt;have Z5:=Z4.below H Z4.lt;have B5:=B4.trans (H.mono B4.size);obtain⟨mk,Y⟩:∃mk,gN l 11 1=mk:=⟨_,rfl⟩;rw[Y];have v5:=V5.c1;have f5:=V5.fz 1;obtain⟨ro,Z⟩:∃ro,decide (mk≠0)=ro:=⟨_,rfl⟩;have b5:((mk:Int)!=0)=ro:=by rw[<-Z,Bool.eq_iff_iff];simp
  have c8:=HI (show decide (gN l 11 1≠0)=ro by rw[Y];exact Z);have B:=q7z P (show p<w4.1.size from a8) (j:=1) (.bool ro);have V:=q3p w5 p 1 (.bool ro);have V6:=V5.set1 ro;have Z6:=Z5.below V (by omega);have B6:=B5.trans (V.mono (by omega));have z6:(w5.setCell ⟨p,1,none⟩ (.bool ro)).1.size=w5.1.size:=World.size_setCell ..;clear Z Y;go_wp2_with fail
  clear P V v5 f5 V5 Z5 B5 b5 X V4 Z4 B4 z4;have e7:=H.size;have b0:p<(w5.setCell ⟨p,1,none⟩ (.bool ro)).1.size:=by omega
  have d6:w4.1.size<=(w5.setCell ⟨p,1,none⟩ (.bool ro)).1.size:=by omega
  generalize w5.setCell ⟨p,1,none⟩ (.bool ro)=w6 at B V6 Z6 B6 z6 b0 d6 ⊢;refine (Fe (l0:=l) 12 2 n5 B.sl 2 rfl (by omega) (by omega) (by omega) (by omega)).mono ?_;rintro e w7 ⟨A7,n7,c7,rfl,Q,e2,I⟩;have V7:=V6.below I V6.lt;have Z7:=Z6.below I Z6.lt;have B7:=B6.trans (I.mono B6.size);have v7:=V7.c2;have f7:=V7.fz 2;have D:=q7z Q (show p<w6.1.size from b0) (j:=2) (.int .i64 (gN l 12 2:Int));have W:=q3p w7 p 2 (.int .i64 (gN l 12 2:Int));have V8:=V7.set2 (gN l 12 2:Int);have Z8:=Z7.below W (by omega);have B8:=B7.trans (W.mono (by omega));have z8:(w7.setCell ⟨p,2,none⟩ (.int .i64 (gN l 12 2:Int))).1.size=w7.1.size:=World.size_setCell ..;go_wp2_with fail
  clear Q W v7 f7 V7 Z7 B7 B V6 Z6 B6 z6;have e8:=I.size;have b3:p<(w7.setCell ⟨p,2,none⟩ (.int .i64 (gN l 12 2:Int))).1.size:=by omega
  generalize w7.setCell ⟨p,2,none⟩ (.int .i64 (gN l 12 2:Int))=w8 at D V8 Z8 B8 z8 b3 ⊢;refine (Fe (l0:=l) 14 4 n7 D.sl 4 rfl (by omega) (by omega) (by omega) (by omega)).mono ?_;rintro e w9 ⟨A9,n9,c9,rfl,R,e3,J⟩;have V9:=V8.below J V8.lt;have Z9:=Z8.below J Z8.lt;have B9:=B8.trans (J.mono B8.size);have v9:=V9.c3;have f9:=V9.fz 3;have a1:=q7z R (show p<w8.1.size from b3) (j:=3) (.int .i64 (gN l 14 4:Int));have u:=q3p w9 p 3 (.int .i64 (gN l 14 4:Int));have E:=V9.Qdb (gN l 14 4:Int);have d2:=Z9.below u (by omega);have b8:=B9.trans (u.mono (by omega));have u0:=E.c0;have u1:=E.c1;have u2:=E.c2;have u3:=E.c3;have e9:=J.size;have e4:w.1.size<w8.1.size:=by omega
  clear R u V9 Z9 B9 D V8 Z8 B8 z8;go_wp2_with (first
   |(refine qiz rfl _ _ rfl w.1.size rfl ⟨nm,ro,(gN l 12 2:Int),(gN l 14 4:Int)⟩ Vl.zero rfl d2 ?_;intro d7 d1 a6 d0)
   |fail)
  have a2:=a1.turn (w':=d7) λg hg hl=>d0.block g hl (by show ¬g=w.1.size;omega)
  have b9:=b8.trans (a6 _ (AE _));have d5:Og l=⟨nm,ro,(gN l 12 2:Int),(gN l 14 4:Int)⟩:=by unfold Og;rw[c6.out,c8.out]
  refine bodyPost_ret (q1x Tryz.results200 rfl (qze d1)) rfl ?_;rw[d5];exact⟨A9,n9,c9,rfl,a2.less (by omega),⟨by omega,by omega⟩,b9⟩
section
def Uk (g:Int)(l:LU)(k:Nat):Sp:=⟨g,(gN l 0 2:Int),(gN l 2 2:Int),(List.range 8).map (λi=>if i<k then Og (l.drop (4+18*i)) else Vl.zero),by simp⟩
def rdS (g:Int)(l:LU):Sp:=Uk g l 8
def sp0 (g a b:Int):Sp:=⟨g,a,b,List.replicate 8 Vl.zero,rfl⟩
theorem qnp (g:Int)(l:LU):Uk g l 0=sp0 g (gN l 0 2:Int) (gN l 2 2:Int):=rfl
theorem qnq (g:Int)(l:LU){k:Nat}(_:k<8):(Uk g l k).Tf k (Og (l.drop (4+18*k)))=Uk g l (k+1):=by
 refine Sp.ext' rfl rfl rfl ?_;show (((List.range 8).map (λi=>if i<k then Og (l.drop (4+18*i)) else Vl.zero)).set k (Og (l.drop (4+18*k))))=(List.range 8).map (λi=>if i<k+1 then Og (l.drop (4+18*i)) else Vl.zero);refine List.ext_getElem (by simp) λi h1 h2=>?_
 have hi:i<8:=by simpa using h2
 rw[List.getElem_set];by_cases h:k=i
 ·subst h;simp
 ·rw[AB h];simp only[List.getElem_map,List.getElem_range];by_cases e:i<k
  ·rw[AA e,AA (by omega)]
  ·rw[AB e,AB (by omega)]
theorem qv8 (g:Int)(l:LU)(k:Nat){i:Nat}(hi:i<8):(Uk g l k).at_ i=if i<k then Og (l.drop (4+18*i)) else Vl.zero:=by
 have h:=(Uk g l k).get hi;have h2:(Uk g l k).Jl[i]?=some (if i<k then Og (l.drop (4+18*i)) else Vl.zero):=by
  show ((List.range 8).map (λi=>if i<k then Og (l.drop (4+18*i)) else Vl.zero))[i]?=_;rw[BA,List.getElem?_range hi];rfl
 rw[h] at h2;exact OI h2
theorem qv9 (g:Int)(l:LU):(rdS g l).fine:=λk e=>by
 unfold rdS;rw[qv8 g l 8 e,AA e];have:=qv7 (l.drop (4+18*k));unfold maxLen;show (rdN _).size<=_;omega
theorem SB.set1 {w:WD}{b:Nat}{S:Sp}(H:SB w b S)(x:Int):SB (w.setCell ⟨b,1,none⟩ (.int .i64 x)) b ⟨S.gen,x,S.log,S.Jl,S.len⟩:=by
 obtain⟨t,H⟩:=H;exact⟨t,heap_setCell_same w b 1 _ t _ H⟩
theorem SB.set2 {w:WD}{b:Nat}{S:Sp}(H:SB w b S)(x:Int):SB (w.setCell ⟨b,2,none⟩ (.int .i64 x)) b ⟨S.gen,S.Qb,x,S.Jl,S.len⟩:=by
 obtain⟨t,H⟩:=H;exact⟨t,heap_setCell_same w b 2 _ t _ H⟩
theorem qj4 {f:Array Oper}{e:List Oper}{o:Oper}{a:Act}{w:WD}{Q:Exit->Act->WD->Prop}(u:o.guard=none)(x y:Operand)(p:o.op=Op.store 100 x y)
  (b k:Nat) (A:k<8) (D:a.eval x=.pointer (some ⟨b,3+k*4,none⟩)) (v:Vl) (S:Sp) (E:a.eval y=v.v) (H:SB w b S)
  (q:∀m,SB m b (S.Tf k v)->(∀B,B<=b->Below B w m)->Turn (λk=>k=b) w m->wpList prog f Q e (a.put o.dst undef) m):wpList prog f Q (o::e) a w:=
 qiy u x y p b k A (by rw[D,Nat.mul_comm]) v S E H q
def alS (h:Bool)(old:Value):Sem Value:=Instr.alloc 103 h old
theorem q5b (h:Bool)(old:Value):Instr.alloc 103 h old=alS h old:=rfl
def bdS (parts:Array (Nat × Value)):Sem Value:=Instr.build 103 parts
theorem q9r (parts:Array (Nat × Value)):Instr.build 103 parts=bdS parts:=rfl
theorem qag (h:Bool)(w:WD):(alS h (.tuple #[])).run prog w=.ok (.pointer (some ⟨w.1.size,0,none⟩)) (w.alloc (.cells Sp.zero.vs.toArray 103)):=by
 cases h
 ·show (Instr.alloc 103 false (.tuple #[])).run prog w=_;kernel_rfl
 ·show (Instr.alloc 103 true (.tuple #[])).run prog w=_;kernel_rfl
theorem qlb (w:WD):(bdS #[]).run prog w=.ok (.agg Sp.zero.vs.toArray) w:=by
 show (Instr.build 103 #[]).run prog w=_;kernel_rfl
theorem qzj (g:Int)(w:WD):(bdS #[(0,.int .i64 g)]).run prog w=.ok (.agg (sp0 g 0 0).vs.toArray) w:=by
 show (Instr.build 103 #[(0,.int .i64 g)]).run prog w=_;kernel_rfl
attribute [local go_sem ↓] q1w q6z q5b q9r
theorem qei (g:Int)(A:OA)(n c:Nat)(l:LU)(w:WD)(hs:Sl w A n c l)(hn:148<=n)(d6:n<=1000) :
  Calls prog 182 #[.int .i64 g,.slice A n c] w λe w'=>e=.returned (.agg (rdS g l).vs.toArray)/\Below w.1.size w w':=by
 have b4:=qag;have b5:=qzj g;have Z1:=SB.new w Sp.zero 103;have b1:Below w.1.size w (w.alloc (.cells Sp.zero.vs.toArray 103)):=Qi;have z1:(w.alloc (.cells Sp.zero.vs.toArray 103)).1.size=w.1.size+1:=by simp
 have H2:=SB.new (w.alloc (.cells Sp.zero.vs.toArray 103)) Sp.zero 103;rw[z1] at H2;go_enter func182,ntmps182
 go_wp2_with (first
  |(refine Fq rfl _ _ rfl (w.1.size+1) rfl (sp0 g 0 0) Sp.zero rfl H2 ?_;intro w3 T X T3)
  |fail)
 have b2:Below (w.alloc (.cells Sp.zero.vs.toArray 103)).1.size (w.alloc (.cells Sp.zero.vs.toArray 103)) ((w.alloc (.cells Sp.zero.vs.toArray 103)).alloc (.cells Sp.zero.vs.toArray 103)):=Qi;rw[z1] at b2;have b3:=b2.trans (X _ (AE _));have Z3:=Z1.below b3 (by omega);have B3:=b1.trans (b3.mono (by omega));obtain⟨f,Y⟩:∃f,w.1.size+1=f:=⟨_,rfl⟩;rw[Y] at T ⊢;have c9:w.1.size<f:=by omega
 have a7:=hs.below B3;clear Z1 b1 z1 H2 X T3 b2 b3 Y b4 b5;refine (Fe (l0:=l) 0 2 n a7 2 rfl (by omega) (by omega) (by omega) (by omega)).mono ?_;rintro e w4 ⟨A4,n4,c4,rfl,F,b7,p⟩;have H4:=T.below p T.lt;have Z4:=Z3.below p Z3.lt;have B4:=B3.trans (p.mono B3.size);have q4:=H4.c1;have f4:=H4.fz 1;obtain⟨J,P⟩:∃J:Int,(gN l 0 2:Int)=J:=⟨_,rfl⟩;rw[P];have G:=q7z F (show f<w3.1.size from T.lt) (j:=1) (.int .i64 J);have K:=q3p w4 f 1 (.int .i64 J);have U:=H4.set1 J;have Z5:=Z4.below K (by omega);have B5:=B4.trans (K.mono (by omega));have z5:(w4.setCell ⟨f,1,none⟩ (.int .i64 J)).1.size=w4.1.size:=World.size_setCell ..;go_wp2_with fail
 clear F K q4 f4 H4 Z4 B4 T Z3 B3 a7;have d0:=p.size;generalize w4.setCell ⟨f,1,none⟩ (.int .i64 J)=w5 at G U Z5 B5 z5 ⊢;refine (Fe (l0:=l) 2 2 n4 G.sl 2 rfl (by omega) (by omega) (by omega) (by omega)).mono ?_;rintro e R ⟨A6,n6,c6,rfl,I,b8,E⟩;have H6:=U.below E U.lt;have Z6:=Z5.below E Z5.lt;have B6:=B5.trans (E.mono B5.size);have q6:=H6.c2;have f6:=H6.fz 2;obtain⟨D,Q⟩:∃D:Int,(gN l 2 2:Int)=D:=⟨_,rfl⟩;rw[Q];have y:=q7z I (show f<w5.1.size from U.lt) (j:=2) (.int .i64 D);have M:=q3p R f 2 (.int .i64 D);have V:=H6.set2 D;have Z7:=Z6.below M (by omega);have B7:=B6.trans (M.mono (by omega));have z7:(R.setCell ⟨f,2,none⟩ (.int .i64 D)).1.size=R.1.size:=World.size_setCell ..;go_wp2_with fail
 clear I M q6 f6 H6 Z6 B6 U Z5 B5;have d7:n6+4<=n/\n<=n6+4:=by omega
 have e7:∀H:Sp,SB (R.setCell ⟨f,2,none⟩ (.int .i64 D)) f H->H=sp0 g J D->SB (R.setCell ⟨f,2,none⟩ (.int .i64 D)) f (Uk g l 0):=λH h e=>by
  rw[qnp,P,Q,<-e];exact h
 have V:=e7 _ V rfl;generalize R.setCell ⟨f,2,none⟩ (.int .i64 D)=w7 at y V Z7 B7 z7 e7 ⊢;have b0:Sl w7 A6 n6 c6 (l.drop (4+18*0)):=y.sl;clear e7 y E p P Q z7 z5 b8 b7 d0;go_loopw [1,23] (λb i wr=>∃(k m:Nat) (A:OA) (c:Nat),k<=8/\n<=m+4+18*k/\m<=n/\b=.slice A m c/\i=.int .i64 (k:Int)/\Sl wr A m c (l.drop (4+18*k))/\SB wr f (Uk g l k)/\SB wr w.1.size Sp.zero/\Below w.1.size w wr) (λ_ i _=>8-(intOf i).toNat)
 case atStart=>exact⟨0,n6,A6,c6,by omega,by omega,by omega,rfl,rfl,b0,V,Z7,B7⟩
 case round=>
  clear b0 V Z7 B7;obtain⟨k,m,A,c,hk,d4,d5,rfl,rfl,sl,H,Z,hB⟩:=hrel;by_cases a1:k<8
  ·have d1:(0:Int)<=(k:Int):=by omega
   have a6:=HI (qnq g l a1);go_wp2_with fail
   refine (qj3 A m c _ wr sl (by omega) (by omega)).mono ?_;rintro e w8 ⟨A8,n8,c8,rfl,B,b9,O⟩;have H8:=H.below O H.lt;have Z8:=Z.below O Z.lt;have B8:=hB.trans (O.mono hB.size);rw[List.drop_drop,show 4+18*k+18=4+18*(k+1) by omega] at B;have d3:=H.lt;have c7:n<=n8+4+18*(k+1):=by omega
   have a2:n8<=n:=by omega
   clear H Z hB sl b9;obtain⟨v,hv⟩:∃v,Og (l.drop (4+18*k))=v:=⟨_,rfl⟩;have W:=HI (show (Uk g l k).Tf k v=Uk g l (k+1) by rw[<-hv];exact a6.out);rw[hv];clear hv a6;go_wp2_with (first
    |(refine qj4 rfl _ _ rfl f k a1 rfl v (Uk g l k) rfl H8 ?_;intro w9 H9 u T9)
    |fail)
   rw[W.out] at H9;have a8:=B.turn (w':=w9) λq hq hl=>T9.block q hl (by show ¬q=f;omega)
   have Z9:=Z8.below (u f (AE _)) c9;have B9:=B8.trans (u _ (by omega));clear W H8 Z8 B8 B T9 u;go_wp2;exact⟨⟨k+1,n8,A8,c8,by omega,c7,a2,rfl,by go_num,a8.sl,H9,Z9,B9⟩,by simp[intOf];omega⟩
  ·have b6:k=8:=by omega
   subst b6;have H:SB wr f (rdS g l):=H;have d2:=H.ld;go_wp2_with (first
    |(refine Fq rfl _ _ rfl w.1.size rfl (rdS g l) Sp.zero rfl Z ?_;intro w9 H9 u T9)
    |fail)
   refine bodyPost_ret (q2w Tryz.results182 rfl (q46 H9)) rfl ?_;exact⟨rfl,hB.trans (u _ (AE _))⟩
end
section
def En (S:Sp)(slot:Int):Hd:=⟨1,slot,0,0,S.gen⟩
def Xy (S:Sp)(slot:Int):Bool:=S.may&&decide (0<=slot/\slot<=1)
def swE (S:Sp)(slot:Int):Int:=if Xy S slot=true then 0 else 1
def swB (S:Sp)(slot:Int):LU:=if Xy S slot=true then Zn (En S slot) (Jd S) else []
theorem q11 {S:Sp}(h:S.may=true):(1<=S.gen/\S.gen<=1099511627775/\32<=S.Qb/\S.Qb<=2048/\0<=S.log/\S.log<=S.Qb-1)/\∀j,j<8->S.ok1 j=true:=by
 unfold Sp.may at h;rw[BN] at h;exact⟨AK h.1,λj e=>List.all_eq_true.1 h.2 j (List.mem_range.2 e)⟩
theorem qlc {s:ByteArray}(h:Ep s=true):1<=s.size/\s.size<=10:=by
 unfold Ep at h;rw[BN] at h;exact AK h.2
theorem qgc {S:Sp}{j:Nat}(h:S.ok1 j=true):S.at_ j=Vl.zero\/(Ep (S.at_ j).name=true/\(0<=(S.at_ j).root/\(S.at_ j).root<=S.Qb-1)/\(2<=(S.at_ j).next/\(S.at_ j).next<=2147483647)):=by
 unfold Sp.ok1 at h;rw[Bool.or_eq_true] at h;rcases h with h|h
 ·exact .inl ((Vl.same_iff _ _).1 h)
 ·rw[BN] at h;have h:=h.1;unfold Vl.ok at h;rw[BN,BN] at h;exact .inr ⟨h.1,AK h.2.1,AK h.2.2⟩
theorem q70 {S:Sp}(h:S.may=true):∀j,j<8->(S.at_ j).name.size<=10:=λj f=>by
 rcases qgc ((q11 h).2 j f) with e|⟨h,_⟩
 ·rw[e];show 0<=10;omega
 ·exact (qlc h).2
theorem qq3 {S:Sp}{slot:Int}(h:Xy S slot=true):(En S slot).ok=true:=by
 unfold Xy at h;rw[BN] at h;have h1:=(q11 h.1).1;have h2:=AK h.2;refine AL ⟨⟨?_,?_⟩,⟨?_,?_⟩,⟨?_,?_⟩,⟨?_,?_⟩,?_,?_⟩<;>(dsimp only[En];omega)
theorem q71 {S:Sp}(h:S.may=true):(Jd S).length=148:=Xg S 8 (by omega) (q70 h)
theorem qld {S:Sp}{slot:Int}(h:Xy S slot=true):swE S slot=0/\swB S slot=Zn (En S slot) (Jd S)/\Xr (En S slot) (Jd S)=0/\Xw (En S slot) (Jd S)=Zn (En S slot) (Jd S):=by
 have hm:S.may=true:=by unfold Xy at h;rw[BN] at h;exact h.1
 have e:=q71 hm;unfold swE swB Xr Xw;rw[AA h,AA h,AA (qq3 h),AA (by omega),AA (qq3 h),AA (by omega)];exact⟨rfl,rfl,rfl,rfl⟩
theorem qzk {S:Sp}{slot:Int}(h:Xy S slot=false):swE S slot=1/\swB S slot=[]:=by
 unfold swE swB;rw[h];exact⟨rfl,rfl⟩
attribute [local go_sem ↓] q1w q6z
theorem q80 (S:Sp)(slot:Int)(hf:S.fine)(w:WD)(ht:Tab w) :
  Calls prog 80 #[.agg S.vs.toArray,.int .i64 slot] w λe q=>
   ∃R n' T,e=.returned (.tuple #[.slice R n' T,.int .i64 (swE S slot)])/\Own q w.1.size 5 R n' T (swB S slot)/\(Xy S slot=true->∃g,R=some ⟨g,0,none⟩/\n'=256/\T=256)/\Below w.1.size w q:=by
 have G:=SB.new w S 103;have P:Below w.1.size w (w.alloc (.cells S.vs.toArray 103)):=Qi;have Q:=ht.below P ht.1;have J:=G.ld;obtain⟨m,hm⟩:∃m,S.may=m:=⟨_,rfl⟩;go_enter func80,ntmps80
 go_wp2_with fail
 generalize w.alloc (.cells S.vs.toArray 103)=w1 at G P J Q ⊢;refine (qla S m hm hf w1).mono ?_;rintro e f ⟨rfl,A⟩;have H:=G.below A G.lt;have F:=P.trans (A.mono P.size);have t2:=Q.below A Q.1;have a2:=H.ld;have q2:=H.c0;clear G J A Q
 cases m
 ·obtain⟨h1,h2⟩:=qzk (S:=S) (slot:=slot) (by unfold Xy;rw[hm];rfl);have B:Xy S slot=false:=by unfold Xy;rw[hm];rfl
  go_wp2;go_ret2;rw[h1,h2,B];exact⟨_,_,_,rfl,q55 _ _ _,λh=>(by cases h),F⟩
 ·go_wp2_with fail
  by_cases y:0<=slot/\slot<=1
  ·have D:Xy S slot=true:=by unfold Xy;rw[hm,AL y];rfl
   obtain⟨h1,h2,h3,h4⟩:=qld D;have U:=HI h1;have V:=HI h2;have a7:=HI D;refine (q0u slot 0 1 true (AL y) _).mono ?_;rintro e O ⟨rfl,rfl⟩;go_wp2_with fail
   have W:∀q:WD,Below f.1.size f q->q.cell? ⟨w.1.size,0,none⟩=some (.int .i64 S.gen)/\(ldS (.pointer (some ⟨w.1.size,0,none⟩))).run prog q=.ok (.agg S.vs.toArray) q/\Below f.1.size f q:=
    λq X=>⟨(X.cell (p:=⟨w.1.size,0,none⟩) H.lt).trans q2,(H.below X H.lt).ld,X⟩
   have BD:Below f.1.size f f.drew:=(AI _ _).drew;have zd:f.1.size<=f.drew.1.size:=AE _;have a6:=q70 hm;clear y h1 h2 a2 D;go_region_held3 (λq=>q.cell? ⟨w.1.size,0,none⟩=some (.int .i64 S.gen)/\(ldS (.pointer (some ⟨w.1.size,0,none⟩))).run prog q=.ok (.agg S.vs.toArray) q/\Below f.1.size f q)
    (first|assumption|exact W _ BD|exact W _ u|exact W _ I)
    (first
     |(go_at_call 145;refine (qq2 S a6 _).mono ?_;rintro e O ⟨A3,n3,c3,rfl,E,Y⟩;have K:Own O f.1.size 5 A3 n3 c3 _:=E;have u:Below f.1.size f O:=BD.trans (Y.mono zd))
     |(go_at_call 77;refine (q5y (En S slot) A3 n3 c3 _ O K.sl (t2.below u t2.1)).mono ?_;rw[h3,h4];rintro e w4 ⟨A4,n4,c4,rfl,M,a1,Z⟩;have I:Below f.1.size f w4:=u.trans (Z.mono (Below.size u)))
     |fail)
   go_wp2;go_ret2;rw[U.out,V.out];exact⟨_,_,_,rfl,(M.less (Below.size u)).less F.size,λ_=>a1 (by first|trivial|rfl),F.trans (I.mono F.size)⟩
  ·have B:Xy S slot=false:=by unfold Xy;rw[hm,AH y];rfl
   obtain⟨h1,h2⟩:=qzk B;refine (q0u slot 0 1 false (AH y) _).mono ?_;rintro e O ⟨rfl,rfl⟩;go_wp2;go_ret2;rw[h1,h2,B];exact⟨_,_,_,rfl,q55 _ _ _,λh=>(by cases h),F⟩
end
