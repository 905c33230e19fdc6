/- The code's pool: writeFresh -/
import Derived.Test.YtnjacafcocnicaaGreatDoorPoS
import Derived.Test.YtnjacafcocnicaaGreatDoorDv23
namespace Go.Proofs.YtnjacafcocnicaaGreatDoor
open Go Go.RowKit Go.Proofs Tryz
set_option maxHeartbeats 8000000
set_option maxRecDepth 100000
section
open Go.ChangeMaps (setBlock)
def Pl.U3 (P:Pl):List Nat:=(List.range P.C.n).filter λa=>(P.live a).isSome
def Pl.Dn (P:Pl)(a:Nat):LU:=match P.live a with|some b=>b.out a P.g|none=>[]
theorem qw5 (P:Pl):Np P.new=P.U3.map λa=>Stp.w a (P.Dn a):=by
 unfold Np Pl.new Pl.U3;rw[show P.Me=λa=>(P.live a).map λb=>(a,b.out a P.g) from funext (qr9 P)];generalize List.range P.C.n=l;induction l with
 |nil=>rfl
 |cons a l ih=>
  rw[List.filterMap_cons,List.filter_cons]
  cases h:P.live a with
  |none=>simpa [h] using ih
  |some b=>
   simp only[Option.map_some,Option.isSome_some,if_true,BJ,ih];rw[show P.Dn a=b.out a P.g by unfold Pl.Dn;rw[h]]
theorem qw6 {P:Pl}{j:Nat}(e:j<P.U3.length):P.U3[j]<P.C.n/\∃b,P.live P.U3[j]=some b:=by
 have h:=List.getElem_mem e;unfold Pl.U3 at h ⊢;rw[List.mem_filter,List.mem_range] at h;exact⟨h.1,Option.isSome_iff_exists.1 h.2⟩
theorem qav {w:WD}{p d:Nat}{S0 S T:NP}{D:DM}{P:Pl}(L0:Vk w d S0 D)(H:Pool w p d S T P)(e2:∀k,S0 k->T k)(e1:∀k,S0 k->¬S k)(hG:¬S0 1)(ht:Tab w){m0:Nat}(g6:D.Ya m0)(i4:m0<=600000) :
  Calls prog 52 #[.pointer (some ⟨p,0,none⟩),.int .i64 P.g] w λe f=>e=.returned (.bool (D.Xx (Np P.new)))/\Ee w f d S0 (D.Qj (Np P.new)):=by
 have e9:=H.ok;have I:=qr8 e9.Wy;have i0:=e9.c.1;obtain⟨m,cur,l,clock,v,Sc,L⟩:=H;have i6:=L.Nw;have g5:=L.mlt;obtain⟨g,hg⟩:∃g,P.g=g:=⟨_,rfl⟩;rw[hg] at I;have a1:Vh l=P.U3.map λa:Nat=>(a:Int):=qye L.ents (λa=>(P.live a).isSome) L.keys λa _=>by rw[L.look a];cases P.live a<;>rfl
 have e8:l.length=P.U3.length:=by
  have h1:(Vh l).length=l.length:=by unfold Vh;rw[List.length_mergeSort,AF]
  rw[<-h1,a1,AF]
 have e7:P.U3.length<=P.C.n:=by
  have:=List.length_filter_le (λa=>(P.live a).isSome) (List.range P.C.n);rw[List.length_range] at this;exact this
 have B:∀e∈l,0<=kI e/\kI e<=100000:=λe he=>by obtain⟨a,ha,hk⟩:=L.keys e he;omega
 obtain⟨W,hW⟩:∃W,Np P.new=W:=⟨_,rfl⟩;have Y:W=P.U3.map λa=>Stp.w a (P.Dn a):=by rw[<-hW,qw5]
 obtain⟨K,hK⟩:∃K,P.U3=K:=⟨_,rfl⟩;have a7:∀j (U:j<K.length),K[j]<P.C.n/\∃b,P.live K[j]=some b:=by subst hK;exact λj U=>qw6 U
 rw[hK] at a1 e8 e7 Y;obtain⟨n,hn⟩:∃n,l.length=n:=⟨_,rfl⟩;have b9:K.length=n:=by omega
 have i5:n<=2048:=by omega
 have e4:W.length=n:=by rw[Y,AF,b9]
 have e5:∀j (U:j<K.length),W.take (j+1)=W.take j++[.w K[j] (P.Dn K[j])]:=λj U=>by
  rw[Y,List.take_add_one,BA,AC U];rfl
 rw[hW,hg];have d2:=HI a7;have f4:=HI e5;have d4:=HI e4;have d3:=HI b9;have f9:=HI a1;have Hg:=HI hg;have d6:=HI I;have f3:=HI e2;have f2:=HI e1;have HG:=HI hG;have b1:Below w.1.size w (w.alloc (.cells #[.map (some m)] 111)):=Qi;have g7:=L.c40;have O:=(b1.block m g5).trans L.map;have c9:=qiq O L.ents B (by omega) (BE w (.cells #[.map (some m)] 111));rw[hn] at c9;have g0:=HI c9;clear hW Y hK a1 e8 e7 B b9 hn e4 e5 a7 hg I e2 e1 hG c9 O;go_enter func52,ntmps52
 go_wp2_with fail
 refine (qpr (some m) w).mono ?_;rintro e w1 ⟨rfl,rfl⟩;go_wp2_with fail
 refine g0.out.mono ?_;rintro e w2 ⟨vk,rfl,u,b2⟩;have B2:=b1.trans (b2.mono b1.size);obtain⟨A,ck,rfl,i2,i3⟩:=qn3 u;have F:∀j (U:j<K.length),∃gk,A=some ⟨gk,0,none⟩/\w.1.size<=gk/\gk<w2.1.size/\w2.cell? ⟨gk,j,none⟩=some (.int .i64 (K[j]:Int)):=λj U=>by
  have g1:j<n:=by rw[<-d3.out];exact U
  obtain⟨gk,c2,ev,_,_⟩:=q7g u (by omega);injection ev with ev _ ec;subst ev;subst ec;have a2:=World.ownsRow.lt u gk rfl;have hN:Xf w2 gk n ck (Vh l):=qtr u (AW _);refine⟨gk,rfl,by have:=a2.1;have:=b1.size;omega,a2.2,?_⟩;rw[(hN.at_ g1).1,f9.out];congr 2
  unfold nm;rw[AG,BA,AC U];rfl
 have b3:=HI F;clear F u;have L2:=L0.tight.below B2;have P2:=L.below B2;have t2:=ht.below B2 ht.1;have z2:=B2.size;have Q:∀wr,Turn (λk=>S0 k/\k<w.1.size) w2 wr->PL wr p d m cur l clock v Sc S T P/\Tab wr/\(∀gk j,w.1.size<=gk->gk<w2.1.size->wr.cell? ⟨gk,j,none⟩=w2.cell? ⟨gk,j,none⟩):=λwr X=>
  ⟨P2.other X (λk hk=>f3.out k hk.1) (λk hk=>f2.out k hk.1),t2.turned X λh=>HG.out h.1,λgk j h1 h2=>AY (a:=⟨gk,j,none⟩) (X.block gk h2 λh=>by have:=h.2;omega)⟩
 have b4:=HI Q;have D0:=L2.dsk;clear Q L2 P2 t2 b1 b2 g7;go_wp2_with fail
 go_loopw [6,14] (λ_ i wr=>∃j:Nat,j<=n/\i=.int .i64 (j:Int)/\D.Zv (W.take j)=0/\Ee w2 wr d (λk=>S0 k/\k<w.1.size) (D.Qj (W.take j))) (λ_ i _=>n-(Go.RowKit.intOf i).toNat)
 case atStart=>exact⟨0,by omega,rfl,rfl,D0⟩
 case round=>
  clear D0;obtain⟨j,U,rfl,hE,L1⟩:=hrel;have d0:=q3j (W.take j) g6;have g8:(W.take j).length<=2048:=by rw[AR,d4.out];omega
  obtain⟨D1,b7⟩:∃D1,D.Qj (W.take j)=D1:=⟨_,rfl⟩;rw[b7] at L1 d0;have b0:=HI b7;have HE:=HI hE;obtain⟨P3,t3,c3⟩:=b4.out wr L1.turn;clear b7 hE;by_cases a2:j<n
  ·have c7:j<K.length:=by rw[d3.out];exact a2
   obtain⟨e6,b,Z⟩:=d2.out j c7;obtain⟨gk,rfl,g3,g4,c8⟩:=b3.out j c7;have d7:=HI (f4.out j c7);obtain⟨a,ha⟩:∃a,K[j]=a:=⟨_,rfl⟩;rw[ha] at e6 Z c8;have hx:P.Dn a=b.out a g:=by unfold Pl.Dn;rw[Z,Hg.out]
   obtain⟨x,a6⟩:∃x,b.out a g=x:=⟨_,rfl⟩;have d9:=HI (show D.Zv (W.take (j+1))=D1.says (.w a x) by rw[d7.out,q75,AA HE.out,b0.out,ha,hx,a6]);have d8:=HI (show D.Qj (W.take (j+1))=D1.does (.w a x) by rw[d7.out,q76,AA HE.out,b0.out,ha,hx,a6]);have g9:=(c3 gk j g3 g4).trans c8;have J:b.good:=L.good a b (by unfold Pl.live at Z;split at Z;cases Z;exact Z);have M:Zf (a:Int) l=some (v a):=by rw[L.look a,Z];rfl
   have hF:∀f,PL f p d m cur l clock v Sc S T P->f.cell? ⟨p,0,none⟩=some (.pointer (some ⟨d,0,none⟩))/\f.cell? ⟨p,40,none⟩=some (.map (some m))/\(Instr.lookup 111 (.map (some m)) (.int .i64 (a:Int)) false).run prog f=.ok (v a) f:=λf P'=>
    ⟨P'.c0,P'.c40,by rw[q4l P'.ents underlying111 underlying3 (Tryz.zeroValue48 f) P'.map (a:Int),M];rfl⟩
   have PD:PL wr.drew p d m cur l clock v Sc S T P:=P3.keep (λ_ _ _=>rfl) (AE _);obtain⟨q,cq,f1,f0,i7⟩:=PD.row a b Z;rw[f1] at hF;have c6:=qoe b J a (by omega) g d6.out _ _ _ wr.drew f0 (t3.below (AI _ _).drew t3.1);rw[a6] at c6;have d5:=HI c6;obtain⟨E,e0⟩:∃E,D1.says (.w a x)=E:=⟨_,rfl⟩;have V:=HI e0;have ja:a<2048:=by omega
   have d1:Below wr.1.size wr wr.drew:=(AI _ _).drew;have i1:gk<wr.1.size:=by have:=L1.turn.size;omega
   clear e0 c6 a6 hx ha Z f1 f0 J M c8 e6 c3;by_cases h0:E=0
   ·have nb:(E != 0)=false:=by simpa using h0
    have H0:=HI h0;clear h0;go_wp2_with fail
    go_region_held3 (λf=>f.cell? ⟨p,0,none⟩=some (.pointer (some ⟨d,0,none⟩))/\f.cell? ⟨p,40,none⟩=some (.map (some m))/\(Instr.lookup 111 (.map (some m)) (.int .i64 (a:Int)) false).run prog f=.ok (.slice (some ⟨q,0,none⟩) 256 cq) f)
     (first|assumption|exact hF _ PD|exact hF _ (PD.below b5)|exact hF _ (b4.out _ L7.turn).1)
     (first
      |(go_at_call 91;refine d5.out.mono ?_;rintro e w5 ⟨q5,rfl,R,b5⟩;have L5:=L1.below (d1.trans b5))
      |(go_at_call 73;have hh:=b5;refine (q1t L5 d0 (by omega) a _ rfl _ 256 256 x R.sl).mono ?_;rw[V.out];rintro e w7 ⟨rfl,L7⟩)
      |fail)
    go_wp2;exact⟨⟨j+1,by omega,by go_num,d9.out.trans (V.out.trans H0.out),by rw[d8.out];exact L7⟩,by simp[Go.RowKit.intOf];omega⟩
   ·have nb:(E != 0)=true:=by simpa using h0
    have y:D.Zv (W.take (j+1))≠0:=λh=>h0 (V.out.symm.trans (d9.out.symm.trans h))
    have a8:W=W.take (j+1)++W.drop (j+1):=(AV _ _).symm;obtain⟨r1,r2⟩:=q37 (l':=W.drop (j+1)) y;rw[<-a8] at r1 r2;have R1:=HI (show D.Xx W=false by unfold DM.Xx;rw[r1];exact AH y);have R2:=HI (show D.Qj W=D1.does (.w a x) by rw[r2,d8.out]);clear a8 r1 r2 y h0;go_wp2_with fail
    go_region_held3 (λf=>f.cell? ⟨p,0,none⟩=some (.pointer (some ⟨d,0,none⟩))/\f.cell? ⟨p,40,none⟩=some (.map (some m))/\(Instr.lookup 111 (.map (some m)) (.int .i64 (a:Int)) false).run prog f=.ok (.slice (some ⟨q,0,none⟩) 256 cq) f)
     (first|assumption|exact hF _ PD|exact hF _ (PD.below b5)|exact hF _ (b4.out _ L7.turn).1)
     (first
      |(go_at_call 91;refine d5.out.mono ?_;rintro e w5 ⟨q5,rfl,R,b5⟩;have L5:=L1.below (d1.trans b5))
      |(go_at_call 73;have hh:=b5;refine (q1t L5 d0 (by omega) a _ rfl _ 256 256 x R.sl).mono ?_;rw[V.out];rintro e w7 ⟨rfl,L7⟩)
      |fail)
    go_wp2;go_ret;exact⟨by rw[R1.out];rfl,by rw[R2.out];exact L7.from B2⟩
  ·have g2:j=n:=by omega
   subst g2;have G:W.take j=W:=AN (by rw[d4.out];exact AE _);have b8:=HE.out;have b6:=b0.out;rw[G] at b8 b6;have R1:=HI (show D.Xx W=true from AL b8);have R2:=HI b6;have e3:¬(j:Int)<(j:Int):=by omega
   clear b8 b6 G c3;go_wp2;go_ret;exact⟨by rw[R1.out];rfl,by rw[R2.out];exact L1.from B2⟩
end
section
open Go.ChangeMaps (setBlock)
theorem qrd (P:Pl):P.steps=Np P.new++Ub P.C P.sup:=by
 unfold Pl.steps Ub Gf Pl.blocks;rw[AM];rfl
def DM.Oy (D:DM)(P:Pl):Int:=if D.Xx P.steps=true then 0 else 4
def DM.Oz (D:DM)(P:Pl):Pl:=if D.Xx P.steps=true then P.done else P
theorem qew {D:DM}{P:Pl}(h:D.Xx P.steps=true):D.Oy P=0/\D.Oz P=P.done:=by unfold DM.Oy DM.Oz;rw[h];exact⟨rfl,rfl⟩
theorem qlu {D:DM}{P:Pl}(h:D.Xx P.steps=false):D.Oy P=4/\D.Oz P=P:=by unfold DM.Oy DM.Oz;rw[h];exact⟨rfl,rfl⟩
theorem SB.set0 {w:WD}{b:Nat}{S:Sp}(H:SB w b S)(x:Int):SB (w.setCell ⟨b,0,none⟩ (.int .i64 x)) b ⟨x,S.Qb,S.log,S.Jl,S.len⟩:=by
 obtain⟨t,H⟩:=H;exact⟨t,heap_setCell_same w b 0 _ t _ H⟩
section
variable {w w1:WD}{p d m clock:Nat}{cur:Array Value}{l:List MapEntry}{v:Nat->Value}{Sc S T:NP}{P:Pl}
end
theorem qci {P:Program}{w:WD}{t k e b clock:Nat}{l:List MapEntry}(q:P.underlying t=some (.map k e))(f:w.1[b]?=some (.map l.toArray clock))(ty:TypeId) :
  (Builtin.clear_ #[t] ty #[.map (some b)]).run P w=.ok (.tuple #[]) (setBlock w b (.map #[] clock)):=by
 simp[Builtin.clear_,run_underlying q,MapKept.run_getObj_map f,MapKept.run_setObj_map _ f,Result.andThen];rfl
theorem qjn {A:Array Oper}{u:List Oper}{o:Oper}{a:Act}{w:WD}{Q:Exit->Act->WD->Prop}(J:o.guard=none)(x y:Operand)(D:o.op=Op.store 103 x y)
  {p d m clock:Nat} {cur:Array Value} {l:List MapEntry} {v:Nat->Value} {Sc S T:NP} {P:Pl} (L:PL w p d m cur l clock v Sc S T P) (B:a.eval x=.pointer (some ⟨p,1,none⟩)) (S':Sp) (O:a.eval y=.agg S'.vs.toArray)
  (H:∀F f,F.1[p]?=some (.cells f 113 (0,0))->PH f d m S'->(∀j,f[36+j]?=cur[36+j]?)->Turn (λk=>k=p) w F->wpList prog A Q u (a.put o.dst undef) F):wpList prog A Q (o::u) a w:=by
 have M:w.there p 1 S'.vs.toArray.size:=by rw[List.size_toArray,S'.Zh];exact L.there (by omega)
 refine wpList_store_mid J _ x y D p 1 S'.vs.toArray B O M (by rw[List.size_toArray,S'.Zh];kernel_rfl) (all_oneCell_toArray S'.one) ?_;have G:=Vp (S:=λk=>k=p) rfl S'.vs 1 w;have E:=L.ph.size;have e:=q0s p 113 S'.vs 1 w cur.toList (by rw[Array.toArray_toList];exact L.me) (by rw[S'.Zh,Array.length_toList];omega);have I:cur.toList.length=41:=by rw[Array.length_toList];exact E
 have q:∀j,(splice cur.toList 1 S'.vs)[j]?=if j=0 then cur[0]? else if j<36 then S'.vs[j-1]? else cur[j]?:=λj=>by
  unfold splice;rw[S'.Zh];by_cases h0:j=0
  ·subst h0;rw[AA rfl,List.getElem?_append_left (by rw[AR];omega),List.getElem?_take,AA (by omega),Array.getElem?_toList]
  ·rw[AB h0];by_cases h1:j<36
   ·rw[AA h1,List.getElem?_append_right (by rw[AR];omega),List.getElem?_append_left (by rw[AR,S'.Zh];omega),AR,show min 1 cur.toList.length=1 by omega]
   ·rw[AB h1,List.getElem?_append_right (by rw[AR];omega),List.getElem?_append_right (by rw[AR,S'.Zh];omega),AR,S'.Zh,List.getElem?_drop,show 1+35+(j-min 1 cur.toList.length-35)=j by omega,Array.getElem?_toList]
 refine H _ _ e ⟨?_,?_,λj x B=>?_,?_⟩ (λj=>?_) G
 ·rw[List.size_toArray];unfold splice;rw[AD,AD,AR,AS,S'.Zh];omega
 ·rw[List.getElem?_toArray,q,AA rfl];exact L.ph.disk
 ·have K:=(List.getElem?_eq_some_iff.1 B).1;rw[S'.Zh] at K;rw[List.getElem?_toArray,q,AB (by omega),AA (by omega),show 1+j-1=j by omega];exact B
 ·rw[List.getElem?_toArray,q,AB (by omega),AB (by omega)];exact L.ph.fresh
 ·rw[List.getElem?_toArray,q,AB (by omega),AB (by omega)]
theorem qre {P:Pl}(h:P.ok)(f:P.g<1099511627775):P.done.ok:=⟨h.c |> Ct.Fa,h.res,h.D7,h.sec,f,λa b e=>by cases e⟩
theorem qgz (P:Pl)(a:Nat):P.done.live a=none:=by unfold Pl.live;split<;>rfl
theorem PL.widen {w w6:WD}{p d m clock:Nat}{cur:Array Value}{l:List MapEntry}{v:Nat->Value}{Sc S T:NP}{P:Pl}(L:PL w p d m cur l clock v Sc S T P)(L6:PL w6 p d m cur l clock v Sc S T P):PL w6 p d m cur l clock v Sc S (λk=>T k\/w.1.size<=k) P:=
 ⟨L6.me,L6.ph,L6.ct,L6.map,L6.ents,L6.look,L6.keys,λa b h=>by
  obtain⟨g,c,e,B,u⟩:=L6.row a b h;obtain⟨E,D,f,q,_⟩:=L.row a b h;rw[e] at f;injection f with f _ _;injection f with f;injection f with f _ _;subst f;have A:=Qcw q (by omega);exact⟨g,c,e,B,λh=>h.elim u λh=>by omega⟩,L6.good,L6.Yl,L6.ne,λk y=>.inl (L6.sub k y),L6.ok,L6.Fh⟩
attribute [local go_sem ↓] q1w q5b
theorem qjo {w:WD}{p d:Nat}{y S T:NP}{D:DM}{P:Pl}(L0:Vk w d y D)(H:Pool w p d S T P)(d3:∀k,y k->T k)(e0:∀k,y k->¬S k)(hT:∀k,T k->k<w.1.size)(hG:¬T 1)(ht:Tab w){m0:Nat}(e7:D.Ya m0)(g8:m0<=500000)(e5:P.g<1099511627775) :
  Calls prog 25 #[.pointer (some ⟨p,0,none⟩)] w λe w'=>e=.returned (.int .i64 (D.Oy P))/\Vk w' d (λk=>y k\/w.1.size<=k) (D.Qj P.steps)/\Pool w' p d S (λk=>T k\/w.1.size<=k) (D.Oz P)/\Turn (λk=>y k\/S k) w w':=by
 have a8:=H.ok;obtain⟨m,cur,l,clock,v,Sc,L⟩:=H;have i1:=L.Nw;have g9:=L.mlt;have a7:=a8.D7;have a2:=qeu a7;have f9:=qag;have d9:¬y 1:=λh=>hG (d3 _ h)
 have b1:Below w.1.size w (w.alloc (.cells Sp.zero.vs.toArray 103)):=Qi;have g2:=L.ld;have X1:=SB.new w Sp.zero 103;have d4:P.S.gen+1=P.g:=rfl;have g1:0<=P.S.gen/\P.S.gen<=1099511627775:=⟨by have:=(q11 a8.may).1;omega,by have:=a8.gen;omega⟩;obtain⟨g0,a6⟩:∃g,P.S.gen=g:=⟨_,rfl⟩;rw[a6] at g1 d4;have f1:=HI d4;have b6:=HI a7;clear d4 a7;have J:=qrd P;obtain⟨W,hW⟩:∃W,Np P.new=W:=⟨_,rfl⟩;obtain⟨Z,hZ⟩:∃Z,Ub P.C P.sup=Z:=⟨_,rfl⟩;rw[hW,hZ] at J;have HW:=HI hW;have HZ:=HI hZ;have a1:=HI J;have G:=HI a2;have d1:=HI a8;have HT:=HI hT;have d0:=HI d3;have B:=HI e0;have c9:=HI d9;have g4:=HI a6;have LT:=L0.tight;have i0:D.n=D.n:=rfl;clear J hW hZ a2 a8 hT d3 e0 d9;go_enter func25,ntmps25
 go_wp2_with (first
  |(refine Fq rfl (.tmp 3) (.tmp 7) rfl w.1.size rfl P.S Sp.zero rfl X1 ?_;intro w2 X2 e2 T2;have q0:=X2.c0;rw[a6] at q0;have f0:=X2.fz 0;have X3:=X2.set0 (g0+1);rw[show (⟨g0+1,P.S.Qb,P.S.log,P.S.Jl,P.S.len⟩:Sp)=P.sup by rw[f1.out];rfl] at X3;have e6:=X3.ld)
  |fail)
 have B3:Below w.1.size w (w2.setCell ⟨w.1.size,0,none⟩ (.int .i64 (g0+1))):=(b1.trans (e2 _ (AE _))).setCell (p:=⟨w.1.size,0,none⟩) (AE _) _;generalize w2.setCell ⟨w.1.size,0,none⟩ (.int .i64 (g0+1))=w3 at X3 e6 B3 ⊢;refine (qla P.sup true b6.out G.out w3).mono ?_;rintro e F ⟨rfl,b4⟩;have B4:=B3.trans (b4.mono B3.size);have X4:=X3.below b4 X3.lt;have L4:=LT.below B4;have P4:=L.below B4;have t4:=ht.below B4 ht.1;have z4:w.1.size<F.1.size:=X4.lt;have e1:∀k,T k->k<w.1.size:=HT.out;have g5:(P.sup).gen=P.g:=rfl;clear X3 e6 X2 e2 T2 q0 f0 b1 g2 X1 f9;have b0:∀wr,Turn (λk=>y k/\k<w.1.size) F wr->PL wr p d m cur l clock v Sc S T P/\Tab wr/\SB wr w.1.size P.sup:=λwr X=>
  ⟨P4.other X (λk f=>d0.out k f.1) (λk f=>B.out k f.1),t4.turned X λh=>c9.out h.1,X4.block (X.block _ z4 λh=>by have:=h.2;omega)⟩
 have hF:∀wr,PL wr p d m cur l clock v Sc S T P->SB wr w.1.size P.sup->wr.cell? ⟨w.1.size,0,none⟩=some (.int .i64 P.g)/\(ldS (.pointer (some ⟨w.1.size,0,none⟩))).run prog wr=.ok (.agg P.sup.vs.toArray) wr/\wr.cell? ⟨p,0,none⟩=some (.pointer (some ⟨d,0,none⟩)):=λwr P' X'=>⟨X'.c0,X'.ld,P'.c0⟩
 have d6:=qav (L4.below (w':=F.drew) (AI _ _).drew) ⟨m,cur,l,clock,v,Sc,P4.keep (w':=F.drew) (λ_ _ _=>rfl) (AE _)⟩ (λk f=>d0.out k f.1) (λk f=>B.out k f.1) (λh=>c9.out h.1) (t4.below (w':=F.drew) (AI _ _).drew t4.1) e7 (by omega);rw[HW.out] at d6;have R:=HI d6;have PD:PL F.drew p d m cur l clock v Sc S T P:=P4.keep (λ_ _ _=>rfl) (AE _);have XD:SB F.drew w.1.size P.sup:=X4;have zd:F.drew.1.size=F.1.size:=rfl;have b9:∀wr,Ee F.drew wr d (λk=>y k/\k<w.1.size) (D.Qj W)->PL wr p d m cur l clock v Sc S T P/\Tab wr/\SB wr w.1.size P.sup:=λwr X=>b0 wr ⟨X.turn.os,X.turn.tape,X.turn.output,X.turn.size,X.turn.block⟩
 have u:=HI b9;have b7:=q3j W e7;have f4:W.length<=2048:=by
  rw[<-HW.out];unfold Np Pl.new;rw[AF];have:=List.length_filterMap_le P.Me (List.range P.C.n);rw[List.length_range] at this;have:=d1.out.c.1.2;omega
 clear d6 b0 b9
 cases U:D.Xx W
 ·rw[U] at R;go_wp2_with fail
  refine wp_region_held_drew (S:=λwr=>wr.cell? ⟨w.1.size,0,none⟩=some (.int .i64 P.g)) (by kernel_rfl) (hF _ PD XD).1 (λd2=>?_);refine wpAnyH_take (i:=0) (oi:=_) (v:=.pointer (some ⟨p,0,none⟩)) rfl (by kernel_rfl) (by kernel_rfl) (by kernel_rfl) (λ_ _ _ h=>h) (Or.inl ⟨by rfl,?_⟩) (by assumption) ?_
  ·intro wx hx;(try dsimp only at hx);go_simp
  try simp only[Act.put,List.getElem_toArray,List.getElem_cons_zero,List.setIfInBounds_toArray,List.set_cons_zero,List.set_cons_succ]
  refine wpAnyH_take (i:=1) (oi:=_) (v:=.pointer (some ⟨w.1.size,0,none⟩)) rfl (by kernel_rfl) (by kernel_rfl) (by kernel_rfl) (λ_ _ _ h=>h) (Or.inl ⟨by rfl,?_⟩) (by assumption) ?_
  ·intro wx hx;(try dsimp only at hx);go_simp
  try simp only[Act.put,List.getElem_toArray,List.getElem_cons_succ,List.getElem_cons_zero,List.setIfInBounds_toArray,List.set_cons_zero,List.set_cons_succ]
  refine wpAnyH_take (i:=2) (oi:=_) (v:=.int .i64 P.g) rfl (by kernel_rfl) (by kernel_rfl) (by kernel_rfl) (λ_ _ _ h=>h) (Or.inl ⟨by rfl,?_⟩) (by assumption) ?_
  ·intro wx hx;(try dsimp only at hx);go_simp
  try simp only[Act.put,List.getElem_toArray,List.getElem_cons_succ,List.getElem_cons_zero,List.setIfInBounds_toArray,List.set_cons_zero,List.set_cons_succ]
  refine wpAnyH_ready (rs:=[3]) (by kernel_rfl) (by simp) ?_;refine AllReadyH.cons (o:=_) rfl (λK hK=>?_) AllReadyH.nil;go_simp
  refine R.out.mono ?_;rintro e Q ⟨rfl,q⟩;refine hK.out _ _ ?_ (λe9=>?_)
  ·exact (hF _ (u.out _ q).1 (u.out _ q).2.2).1
  clear hK K d2;try simp only[Act.put,List.getElem_toArray,List.getElem_cons_succ,List.getElem_cons_zero,List.setIfInBounds_toArray,List.set_cons_zero,List.set_cons_succ]
  refine wpAnyH_take (i:=4) (oi:=_) (v:=.bool true) rfl (by kernel_rfl) (by kernel_rfl) (by kernel_rfl) (λ_ _ _ h=>h) (Or.inl ⟨by rfl,?_⟩) (by assumption) ?_
  ·intro wx hx;(try dsimp only at hx);go_simp
  try simp only[Act.put,List.getElem_toArray,List.getElem_cons_succ,List.getElem_cons_zero,List.setIfInBounds_toArray,List.set_cons_zero,List.set_cons_succ]
  refine wpAnyH_take (i:=5) (oi:=_) (v:=.bool true) rfl (by kernel_rfl) (by kernel_rfl) (by kernel_rfl) (λ_ _ _ h=>h) (Or.inl ⟨by rfl,?_⟩) (by assumption) ?_
  ·intro wx hx;(try dsimp only at hx);go_simp
  try simp only[Act.put,List.getElem_toArray,List.getElem_cons_succ,List.getElem_cons_zero,List.setIfInBounds_toArray,List.set_cons_zero,List.set_cons_succ]
  refine wpAnyH_take (i:=6) (oi:=_) (v:=undef) rfl (by kernel_rfl) (by kernel_rfl) (by kernel_rfl) (λ_ _ _ h=>h) (Or.inr ⟨by kernel_rfl,rfl⟩) (by assumption) ?_;try simp only[Act.put,List.getElem_toArray,List.getElem_cons_succ,List.getElem_cons_zero,List.setIfInBounds_toArray,List.set_cons_zero,List.set_cons_succ]
  refine wpAnyH_take (i:=7) (oi:=_) (v:=undef) rfl (by kernel_rfl) (by kernel_rfl) (by kernel_rfl) (λ_ _ _ h=>h) (Or.inr ⟨by kernel_rfl,rfl⟩) (by assumption) ?_;try simp only[Act.put,List.getElem_toArray,List.getElem_cons_succ,List.getElem_cons_zero,List.setIfInBounds_toArray,List.set_cons_zero,List.set_cons_succ]
  refine wpAnyH_take (i:=8) (oi:=_) (v:=undef) rfl (by kernel_rfl) (by kernel_rfl) (by kernel_rfl) (λ_ _ _ h=>h) (Or.inr ⟨by kernel_rfl,rfl⟩) (by assumption) ?_;try simp only[Act.put,List.getElem_toArray,List.getElem_cons_succ,List.getElem_cons_zero,List.setIfInBounds_toArray,List.set_cons_zero,List.set_cons_succ]
  refine wpAnyH_take (i:=9) (oi:=_) (v:=undef) rfl (by kernel_rfl) (by kernel_rfl) (by kernel_rfl) (λ_ _ _ h=>h) (Or.inr ⟨by kernel_rfl,rfl⟩) (by assumption) ?_;try simp only[Act.put,List.getElem_toArray,List.getElem_cons_succ,List.getElem_cons_zero,List.setIfInBounds_toArray,List.set_cons_zero,List.set_cons_succ]
  refine wpAnyH_take (i:=10) (oi:=_) (v:=undef) rfl (by kernel_rfl) (by kernel_rfl) (by kernel_rfl) (λ_ _ _ h=>h) (Or.inr ⟨by kernel_rfl,rfl⟩) (by assumption) ?_;try simp only[Act.put,List.getElem_toArray,List.getElem_cons_succ,List.getElem_cons_zero,List.setIfInBounds_toArray,List.set_cons_zero,List.set_cons_succ]
  refine wpAnyH_take (i:=11) (oi:=_) (v:=undef) rfl (by kernel_rfl) (by kernel_rfl) (by kernel_rfl) (λ_ _ _ h=>h) (Or.inr ⟨by kernel_rfl,rfl⟩) (by assumption) ?_;try simp only[Act.put,List.getElem_toArray,List.getElem_cons_succ,List.getElem_cons_zero,List.setIfInBounds_toArray,List.set_cons_zero,List.set_cons_succ]
  refine wpAnyH_take (i:=12) (oi:=_) (v:=undef) rfl (by kernel_rfl) (by kernel_rfl) (by kernel_rfl) (λ_ _ _ h=>h) (Or.inr ⟨by kernel_rfl,rfl⟩) (by assumption) ?_;try simp only[Act.put,List.getElem_toArray,List.getElem_cons_succ,List.getElem_cons_zero,List.setIfInBounds_toArray,List.set_cons_zero,List.set_cons_succ]
  refine wpAnyH_take (i:=13) (oi:=_) (v:=undef) rfl (by kernel_rfl) (by kernel_rfl) (by kernel_rfl) (λ_ _ _ h=>h) (Or.inr ⟨by kernel_rfl,rfl⟩) (by assumption) ?_;try simp only[Act.put,List.getElem_toArray,List.getElem_cons_succ,List.getElem_cons_zero,List.setIfInBounds_toArray,List.set_cons_zero,List.set_cons_succ]
  refine wpAnyH_take (i:=14) (oi:=_) (v:=undef) rfl (by kernel_rfl) (by kernel_rfl) (by kernel_rfl) (λ_ _ _ h=>h) (Or.inr ⟨by kernel_rfl,rfl⟩) (by assumption) ?_;try simp only[Act.put,List.getElem_toArray,List.getElem_cons_succ,List.getElem_cons_zero,List.setIfInBounds_toArray,List.set_cons_zero,List.set_cons_succ]
  refine wpAnyH_take (i:=15) (oi:=_) (v:=undef) rfl (by kernel_rfl) (by kernel_rfl) (by kernel_rfl) (λ_ _ _ h=>h) (Or.inr ⟨by kernel_rfl,rfl⟩) (by assumption) ?_;try simp only[Act.put,List.getElem_toArray,List.getElem_cons_succ,List.getElem_cons_zero,List.setIfInBounds_toArray,List.set_cons_zero,List.set_cons_succ]
  refine wpAnyH_take (i:=16) (oi:=_) (v:=.bool true) rfl (by kernel_rfl) (by kernel_rfl) (by kernel_rfl) (λ_ _ _ h=>h) (Or.inl ⟨by rfl,?_⟩) (by assumption) ?_
  ·intro wx hx;(try dsimp only at hx);go_simp
  try simp only[Act.put,List.getElem_toArray,List.getElem_cons_succ,List.getElem_cons_zero,List.setIfInBounds_toArray,List.set_cons_zero,List.set_cons_succ]
  refine wpAnyH_done (by kernel_rfl) ?_ _;have I:D.Zv W≠0:=of_decide_eq_false U;obtain⟨s1,s2⟩:=q37 (l':=Z) I;rw[<-a1.out] at s1 s2;have hR:D.Xx P.steps=false:=by unfold DM.Xx;rw[s1];exact AH I
  have HR:=HI hR;have S2:=HI s2;have P5:=(u.out _ q).1;clear I s1 s2 hR U;go_wp2;go_ret;rw[(qlu HR.out).1,(qlu HR.out).2,S2.out];refine⟨rfl,q.Aq.mono λk f h=>h.elim (λh=>.inl h.1) λh=>.inr (by rw[zd] at h;omega),⟨m,cur,l,clock,v,Sc,L.widen P5⟩,?_⟩;have T5:Turn y w Q:=(Qz (B4.drew) |>.mono (S':=y) λ_ h=>h).trans q.turn λk f=>.inl f.1
  exact T5.mono λk f=>.inl f
 ·rw[U] at R;have I:D.Zv W=0:=AK U;obtain⟨D1,b3⟩:∃D1,D.Qj W=D1:=⟨_,rfl⟩;have s1:D.Zv P.steps=D1.Zv Z:=by rw[a1.out,q32,AA I,b3]
  have s2:D.Qj P.steps=D1.Qj Z:=by rw[a1.out,q33,AA I,b3]
  rw[b3] at R u b7;have S2:=HI s2;have d5:=λ(Q:WD) (q:Ee F.drew Q d (λk=>y k/\k<w.1.size) D1)=>qat q.Aq (u.out _ q).1.ct (λk f=>⟨λe=>by
    subst e;exact f.elim (λh=>B.out _ h.1 L.Yl.1) λh=>by rw[zd] at h;omega,λh=>f.elim (λh2=>B.out _ h2.1 (L.Yl.2.2 k h)) λh2=>by have:=e1 k (L.sub k (L.Yl.2.2 k h));rw[zd] at h2;omega⟩)
   (λf=>f.elim (λh=>c9.out h.1) λh=>by rw[zd] at h;have:=ht.1;omega) P.sup b6.out G.out d1.out.sec (u.out _ q).2.1 b7 (by omega)
  rw[HZ.out] at d5;have b8:∀(Q M:WD),Ee F.drew Q d (λk=>y k/\k<w.1.size) D1->Turn (λk=>(y k/\k<w.1.size)\/F.drew.1.size<=k) Q M->Turn (λk=>y k/\k<w.1.size) F.drew M:=λQ M q X=>q.turn.trans X λk f=>f
  have O:∀Q M,Ee F.drew Q d (λk=>y k/\k<w.1.size) D1->Turn (λk=>(y k/\k<w.1.size)\/F.drew.1.size<=k) Q M->PL M p d m cur l clock v Sc S T P/\SB M w.1.size P.sup/\Turn y w M:=λQ M q X=>by
   have Y:=b8 Q M q X;refine⟨PD.other Y (λk f=>d0.out k f.1) λk f=>B.out k f.1,XD.block (Y.block _ (by rw[zd];omega) λh=>by have:=h.2;omega),(Qz (B4.drew) |>.mono (S':=y) λ_ h=>h).trans Y λk f=>.inl f.1⟩
  have A:=HI O;have b2:=HI d5;clear I b3 s2 U b8 O d5
  cases E:D1.Xx Z
  ·have hR:D.Xx P.steps=false:=by unfold DM.Xx at E ⊢;rw[s1];exact E
   have HR:=HI hR;rw[E] at b2;clear hR E s1;go_wp2_with fail
   go_region_held3 (λwr=>wr.cell? ⟨w.1.size,0,none⟩=some (.int .i64 P.g)/\(ldS (.pointer (some ⟨w.1.size,0,none⟩))).run prog wr=.ok (.agg P.sup.vs.toArray) wr/\wr.cell? ⟨p,0,none⟩=some (.pointer (some ⟨d,0,none⟩)))
    (first|assumption|exact hF _ PD XD|exact hF _ (u.out _ q).1 (u.out _ q).2.2|exact hF _ (A.out _ _ q L6.turn).1 (A.out _ _ q L6.turn).2.1)
    (first
     |(go_at_call 52;refine R.out.mono ?_;rintro e Q ⟨rfl,q⟩)
     |(go_at_call 46;refine (b2.out _ q).mono ?_;rintro e M ⟨rfl,L6⟩)
     |fail)
   obtain⟨V,X6,T6⟩:=A.out _ _ q L6.turn;go_wp2;go_ret;rw[(qlu HR.out).1,(qlu HR.out).2,S2.out];exact⟨rfl,L6.Aq.mono λk f h=>h.elim (λh=>h.elim (λh=>.inl h.1) λh=>.inr (by rw[zd] at h;omega)) λh=>.inr (by have:=q.turn.size;rw[zd] at this;omega),⟨m,cur,l,clock,v,Sc,L.widen V⟩,T6.mono λk f=>.inl f⟩
  ·have hR:D.Xx P.steps=true:=by unfold DM.Xx at E ⊢;rw[s1];exact E
   have HR:=HI hR;rw[E] at b2;clear hR E s1;go_wp2_with fail
   go_region_held3 (λwr=>wr.cell? ⟨w.1.size,0,none⟩=some (.int .i64 P.g)/\(ldS (.pointer (some ⟨w.1.size,0,none⟩))).run prog wr=.ok (.agg P.sup.vs.toArray) wr/\wr.cell? ⟨p,0,none⟩=some (.pointer (some ⟨d,0,none⟩)))
    (first|assumption|exact hF _ PD XD|exact hF _ (u.out _ q).1 (u.out _ q).2.2|exact hF _ (A.out _ _ q L6.turn).1 (A.out _ _ q L6.turn).2.1)
    (first
     |(go_at_call 52;refine R.out.mono ?_;rintro e Q ⟨rfl,q⟩)
     |(go_at_call 46;refine (b2.out _ q).mono ?_;rintro e M ⟨rfl,L6⟩)
     |fail)
   obtain⟨V,X6,T6⟩:=A.out _ _ q L6.turn;have g7:=X6.ld;have D6:Vk M d (λk=>y k\/w.1.size<=k) (D.Qj P.steps):=by
    rw[S2.out];exact L6.Aq.mono λk f h=>h.elim (λh=>h.elim (λh=>.inl h.1) λh=>.inr (by rw[zd] at h;omega)) λh=>.inr (by have:=q.turn.size;rw[zd] at this;omega)
   go_wp2_with (first
    |(refine qjn rfl (.tmp 35) (.tmp 33) rfl V rfl P.sup rfl ?_;intro w7 d8 d7 e8 f3 T7;have C7:Y1 w7 p 36 Sc P.C:=V.ct.around V.me d7 (λj _=>f3 j) (λk f e=>(V.ne k f).1 e.symm) λk f hs=>T7.block k f λe=>(V.ne k hs).1 e)
    |(go_at_call 53;refine (qal C7).mono ?_;rintro e w8 ⟨rfl,C8,T8⟩;have b5:=(T8.block p (Ky d7) λh=>(V.ne p h).1 rfl).trans d7;have g6:=q2r b5 e8.fresh;have c6:=(T7.block m V.mlt λe=>V.p_m e.symm).trans V.map;have c7:=(T8.block m (Ky c6) λh=>(V.ne m h).2 rfl).trans c6;have e3:=λty=>qci (P:=prog) (t:=111) (k:=3) (e:=48) underlying111 c7 ty)
    |fail)
   have T9:Turn (λk=>k=m) w8 (setBlock w8 m (.map #[] clock)):=q0t _ rfl;have c8:(setBlock w8 m (.map #[] clock)).1[m]?=some (.map #[] clock):=q2a (Ky c7);clear e3;generalize setBlock w8 m (.map #[] clock)=w9 at T9 c8 ⊢;go_wp2;go_ret;rw[(qew HR.out).1,(qew HR.out).2];have e4:∀k,(y k\/w.1.size<=k)->k<M.1.size->k≠p/\k≠m/\¬Sc k:=λk f _=>by
    have hp:=L.Yl;refine⟨λe=>?_,λe=>?_,λh=>?_⟩
    ·subst e;exact f.elim (λh=>B.out _ h hp.1) λh=>by omega
    ·subst e;exact f.elim (λh=>B.out _ h hp.2.1) λh=>by omega
    ·exact f.elim (λh2=>B.out _ h2 (hp.2.2 k h)) λh2=>by have:=e1 k (L.sub k (hp.2.2 k h));omega
   have i2:=T7.size;have i3:=T8.size;have g3:=(T9.block p (Ky b5) L.p_m).trans b5;have C9:Y1 w9 p 36 Sc P.C.commit:=C8.keep (T9.block p (Ky b5) L.p_m) λk f hs=>T9.block k f λe=>(L.ne k hs).2 e
   have D9:Vk w9 d (λk=>y k\/w.1.size<=k) (D.Qj P.steps):=D6.keep λk f hs=>by
    obtain⟨h1,h2,h3⟩:=e4 k hs f;exact (T9.block k (by omega) h2).trans ((T8.block k (by omega) h3).trans (T7.block k f h1))
   have f2:Turn S M w9:=((T7.mono λk f=>by rw[f];exact L.Yl.1).trans (T8.mono L.Yl.2.2) λk f=>.inl f).trans T9 λk f=>by rw[f];exact .inl L.Yl.2.1
   refine⟨rfl,D9,⟨m,d8,[],clock,v,Sc,g3,e8,C9,c8,⟨λe he=>(by cases he),List.nodup_nil,List.nodup_nil,λe he=>(by cases he)⟩,λa=>?_,λe he=>(by cases he),λa b h=>?_,λa b h=>(by cases h),L.Yl,L.ne,λk f=>.inl (L.sub k f),qre d1.out e5,G.out⟩,(T6.mono λk f=>.inl f).then (f2.mono λk f=>.inr f)⟩
   ·rw[qgz];rfl
   ·rw[qgz] at h;cases h
end
