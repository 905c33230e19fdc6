/- The code's pool: writeFresh -/
import Derived.Test.YtnnbaihfboacoaaGreatDoorPoS
import Derived.Test.YtnnbaihfboacoaaGreatDoorEu23
namespace Go.Proofs.YtnnbaihfboacoaaGreatDoor
open Go Go.RowKit Go.Proofs
set_option maxHeartbeats 8000000
set_option maxRecDepth 100000
section
open Go.ChangeMaps (setBlock)
def Pl.Uj (P:Pl):List Nat:=(List.range P.C.n).filter λa=>(P.live a).isSome
def Pl.Cb (P:Pl)(a:Nat):List UInt8:=match P.live a with|some b=>b.out a P.g|none=>[]
theorem qt9 (P:Pl):Io P.new=P.Uj.map λa=>Stp.w a (P.Cb a):=by
 unfold Io Pl.new Pl.Uj;rw[show P.Ib=λa=>(P.live a).map λb=>(a,b.out a P.g) from funext (qom P)];generalize List.range P.C.n=l;induction l with
 |nil=>rfl
 |cons a l ih=>
  rw[List.filterMap_cons,List.filter_cons]
  cases h:P.live a with
  |none=>simpa [h] using ih
  |some b=>
   simp only[Option.map_some,Option.isSome_some,if_true,List.map_cons,ih];rw[show P.Cb a=b.out a P.g by unfold Pl.Cb;rw[h]]
theorem qta {P:Pl}{j:Nat}(e:j<P.Uj.length):P.Uj[j]<P.C.n/\∃b,P.live P.Uj[j]=some b:=by
 have h:=List.getElem_mem e;unfold Pl.Uj at h ⊢;rw[List.mem_filter,List.mem_range] at h;exact⟨h.1,Option.isSome_iff_exists.1 h.2⟩
theorem qab {w:World}{p d:Nat}{S0 S T:Nat->Prop}{D:DM}{P:Pl}(L0:Y9 w d S0 D)(H:Pool w p d S T P)(e2:∀k,S0 k->T k)(e1:∀k,S0 k->¬S k)(hG:¬S0 1)(ht:Tab w){m0:Nat}(g6:D.Ya m0)(i4:m0<=600000) :
  Calls Tryz.prog 53 #[.pointer (some ⟨p,0,none⟩),.int .i64 P.g] w λe f=>e=.returned (.bool (D.Xp (Io P.new)))/\Df w f d S0 (D.Qk (Io P.new)):=by
 have e9:=H.ok;have I:=qoj e9.Kv;have i0:=e9.c.1;obtain⟨m,cur,l,clock,v,Sc,L⟩:=H;have i6:=L.Ie;have g5:=L.mlt;obtain⟨g,hg⟩:∃g,P.g=g:=⟨_,rfl⟩;rw[hg] at I;have a1:Kz l=P.Uj.map λa:Nat=>(a:Int):=quy L.ents (λa=>(P.live a).isSome) L.keys λa _=>by rw[L.look a];cases P.live a<;>rfl
 have e8:l.length=P.Uj.length:=by
  have h1:(Kz l).length=l.length:=by unfold Kz;rw[List.length_mergeSort,List.length_map]
  rw[<-h1,a1,List.length_map]
 have e7:P.Uj.length<=P.C.n:=by
  have:=List.length_filter_le (λa=>(P.live a).isSome) (List.range P.C.n);rw[List.length_range] at this;exact this
 have B:∀e∈l,0<=kI e/\kI e<=100000:=λe he=>by obtain⟨a,ha,hk⟩:=L.keys e he;omega
 obtain⟨W,hW⟩:∃W,Io P.new=W:=⟨_,rfl⟩;have Z:W=P.Uj.map λa=>Stp.w a (P.Cb a):=by rw[<-hW,qt9]
 obtain⟨K,hK⟩:∃K,P.Uj=K:=⟨_,rfl⟩;have a7:∀j (U:j<K.length),K[j]<P.C.n/\∃b,P.live K[j]=some b:=by subst hK;exact λj U=>qta U
 rw[hK] at a1 e8 e7 Z;obtain⟨n,hn⟩:∃n,l.length=n:=⟨_,rfl⟩;have b9:K.length=n:=by omega
 have i5:n<=2048:=by omega
 have e4:W.length=n:=by rw[Z,List.length_map,b9]
 have e5:∀j (U:j<K.length),W.take (j+1)=W.take j++[.w K[j] (P.Cb K[j])]:=λj U=>by
  rw[Z,List.take_add_one,List.getElem?_map,List.getElem?_eq_getElem U];rfl
 rw[hW,hg];have d2:=Lib.hid a7;have f4:=Lib.hid e5;have d4:=Lib.hid e4;have d3:=Lib.hid b9;have f9:=Lib.hid a1;have Hg:=Lib.hid hg;have d6:=Lib.hid I;have f3:=Lib.hid e2;have f2:=Lib.hid e1;have HG:=Lib.hid hG;have b1:Below w.1.size w (w.alloc (.cells #[.map (some m)] 101)):=Qm;have g7:=L.c40;have O:=(b1.block m g5).trans L.map;have c9:=qhe O L.ents B (by omega) (heap_alloc_new w (.cells #[.map (some m)] 101));rw[hn] at c9;have g0:=Lib.hid c9;clear hW Z hK a1 e8 e7 B b9 hn e4 e5 a7 hg I e2 e1 hG c9 O;go_enter Tryz.func53,Tryz.ntmps53
 go_wp2_with fail
 refine (qne (some m) w).mono ?_;rintro e w1 ⟨rfl,rfl⟩;go_wp2_with fail
 refine g0.out.mono ?_;rintro e w2 ⟨vk,rfl,u,b2⟩;have B2:=b1.trans (b2.mono b1.size);obtain⟨A,ck,rfl,i2,i3⟩:=qjs u;have F:∀j (U:j<K.length),∃gk,A=some ⟨gk,0,none⟩/\w.1.size<=gk/\gk<w2.1.size/\w2.cell? ⟨gk,j,none⟩=some (.int .i64 (K[j]:Int)):=λj U=>by
  have g1:j<n:=by rw[<-d3.out];exact U
  obtain⟨gk,c2,ev,_,_⟩:=qa3 u (by omega);injection ev with ev _ ec;subst ev;subst ec;have a2:=World.ownsRow.lt u gk rfl;have hN:J6 w2 gk n ck (Kz l):=qr6 u (Nat.zero_le _);refine⟨gk,rfl,by have:=a2.1;have:=b1.size;omega,a2.2,?_⟩;rw[(hN.at_ g1).1,f9.out];congr 2
  unfold nm;rw[List.getD_eq_getElem?_getD,List.getElem?_map,List.getElem?_eq_getElem U];rfl
 have b3:=Lib.hid F;clear F u;have L2:=L0.tight.below B2;have P2:=L.below B2;have t2:=ht.below B2 ht.1;have z2:=B2.size;have Q:∀wr,Turn (λk=>S0 k/\k<w.1.size) w2 wr->PL wr p d m cur l clock v Sc S T P/\Tab wr/\(∀gk j,w.1.size<=gk->gk<w2.1.size->wr.cell? ⟨gk,j,none⟩=w2.cell? ⟨gk,j,none⟩):=λwr X=>
  ⟨P2.other X (λk hk=>f3.out k hk.1) (λk hk=>f2.out k hk.1),t2.turned X λh=>HG.out h.1,λgk j h1 h2=>World.cell?_of_block (a:=⟨gk,j,none⟩) (X.block gk h2 λh=>by have:=h.2;omega)⟩
 have b4:=Lib.hid Q;have D0:=L2.dsk;clear Q L2 P2 t2 b1 b2 g7;go_wp2_with fail
 go_loopw [6,14] (λ_ i wr=>∃j:Nat,j<=n/\i=.int .i64 (j:Int)/\D.Zy (W.take j)=0/\Df w2 wr d (λk=>S0 k/\k<w.1.size) (D.Qk (W.take j))) (λ_ i _=>n-(Go.RowKit.intOf i).toNat)
 case atStart=>exact⟨0,by omega,rfl,rfl,D0⟩
 case round=>
  clear D0;obtain⟨j,U,rfl,hE,L1⟩:=hrel;have d0:=q3c (W.take j) g6;have g8:(W.take j).length<=2048:=by rw[List.length_take,d4.out];omega
  obtain⟨D1,b7⟩:∃D1,D.Qk (W.take j)=D1:=⟨_,rfl⟩;rw[b7] at L1 d0;have b0:=Lib.hid b7;have HE:=Lib.hid hE;obtain⟨P3,t3,c3⟩:=b4.out wr L1.turn;clear b7 hE;by_cases a2:j<n
  ·have c7:j<K.length:=by rw[d3.out];exact a2
   obtain⟨e6,b,hb⟩:=d2.out j c7;obtain⟨gk,rfl,g3,g4,c8⟩:=b3.out j c7;have d7:=Lib.hid (f4.out j c7);obtain⟨a,ha⟩:∃a,K[j]=a:=⟨_,rfl⟩;rw[ha] at e6 hb c8;have hx:P.Cb a=b.out a g:=by unfold Pl.Cb;rw[hb,Hg.out]
   obtain⟨x,a6⟩:∃x,b.out a g=x:=⟨_,rfl⟩;have d9:=Lib.hid (show D.Zy (W.take (j+1))=D1.says (.w a x) by rw[d7.out,q6o,if_pos HE.out,b0.out,ha,hx,a6]);have d8:=Lib.hid (show D.Qk (W.take (j+1))=D1.does (.w a x) by rw[d7.out,q6p,if_pos HE.out,b0.out,ha,hx,a6]);have g9:=(c3 gk j g3 g4).trans c8;have J:b.good:=L.good a b (by unfold Pl.live at hb;split at hb;cases hb;exact hb);have M:Zf (a:Int) l=some (v a):=by rw[L.look a,hb];rfl
   have hF:∀f,PL f p d m cur l clock v Sc S T P->f.cell? ⟨p,0,none⟩=some (.pointer (some ⟨d,0,none⟩))/\f.cell? ⟨p,40,none⟩=some (.map (some m))/\(Instr.lookup 101 (.map (some m)) (.int .i64 (a:Int)) false).run Tryz.prog f=.ok (v a) f:=λf P'=>
    ⟨P'.c0,P'.c40,by rw[q4k P'.ents Tryz.underlying101 Tryz.underlying3 (Tryz.zeroValue31 f) P'.map (a:Int),M];rfl⟩
   have PD:PL wr.drew p d m cur l clock v Sc S T P:=P3.keep (λ_ _ _=>rfl) (Nat.le_refl _);obtain⟨q,cq,f1,f0,i7⟩:=PD.row a b hb;rw[f1] at hF;have c6:=qm1 b J a (by omega) g d6.out _ _ _ wr.drew f0 (t3.below (Below.refl _ _).drew t3.1);rw[a6] at c6;have d5:=Lib.hid c6;obtain⟨E,e0⟩:∃E,D1.says (.w a x)=E:=⟨_,rfl⟩;have Y:=Lib.hid e0;have ja:a<2048:=by omega
   have d1:Below wr.1.size wr wr.drew:=(Below.refl _ _).drew;have i1:gk<wr.1.size:=by have:=L1.turn.size;omega
   clear e0 c6 a6 hx ha hb f1 f0 J M c8 e6 c3;by_cases h0:E=0
   ·have nb:(E != 0)=false:=by simpa using h0
    have H0:=Lib.hid h0;clear h0;go_wp2_with fail
    go_region_held3 (λf=>f.cell? ⟨p,0,none⟩=some (.pointer (some ⟨d,0,none⟩))/\f.cell? ⟨p,40,none⟩=some (.map (some m))/\(Instr.lookup 101 (.map (some m)) (.int .i64 (a:Int)) false).run Tryz.prog f=.ok (.slice (some ⟨q,0,none⟩) 256 cq) f)
     (first|assumption|exact hF _ PD|exact hF _ (PD.below b5)|exact hF _ (b4.out _ L7.turn).1)
     (first
      |(go_at_call 93;refine d5.out.mono ?_;rintro e w5 ⟨q5,rfl,R,b5⟩;have L5:=L1.below (d1.trans b5))
      |(go_at_call 80;have hh:=b5;refine (q1v L5 d0 (by omega) a _ rfl _ 256 256 x R.sl).mono ?_;rw[Y.out];rintro e w7 ⟨rfl,L7⟩)
      |fail)
    go_wp2;exact⟨⟨j+1,by omega,by go_num,d9.out.trans (Y.out.trans H0.out),by rw[d8.out];exact L7⟩,by simp[Go.RowKit.intOf];omega⟩
   ·have nb:(E != 0)=true:=by simpa using h0
    have y:D.Zy (W.take (j+1))≠0:=λh=>h0 (Y.out.symm.trans (d9.out.symm.trans h))
    have a8:W=W.take (j+1)++W.drop (j+1):=(List.take_append_drop _ _).symm;obtain⟨r1,r2⟩:=q2z (l':=W.drop (j+1)) y;rw[<-a8] at r1 r2;have R1:=Lib.hid (show D.Xp W=false by unfold DM.Xp;rw[r1];exact decide_eq_false y);have R2:=Lib.hid (show D.Qk W=D1.does (.w a x) by rw[r2,d8.out]);clear a8 r1 r2 y h0;go_wp2_with fail
    go_region_held3 (λf=>f.cell? ⟨p,0,none⟩=some (.pointer (some ⟨d,0,none⟩))/\f.cell? ⟨p,40,none⟩=some (.map (some m))/\(Instr.lookup 101 (.map (some m)) (.int .i64 (a:Int)) false).run Tryz.prog f=.ok (.slice (some ⟨q,0,none⟩) 256 cq) f)
     (first|assumption|exact hF _ PD|exact hF _ (PD.below b5)|exact hF _ (b4.out _ L7.turn).1)
     (first
      |(go_at_call 93;refine d5.out.mono ?_;rintro e w5 ⟨q5,rfl,R,b5⟩;have L5:=L1.below (d1.trans b5))
      |(go_at_call 80;have hh:=b5;refine (q1v L5 d0 (by omega) a _ rfl _ 256 256 x R.sl).mono ?_;rw[Y.out];rintro e w7 ⟨rfl,L7⟩)
      |fail)
    go_wp2;go_ret;exact⟨by rw[R1.out];rfl,by rw[R2.out];exact L7.from B2⟩
  ·have g2:j=n:=by omega
   subst g2;have G:W.take j=W:=List.take_of_length_le (by rw[d4.out];exact Nat.le_refl _);have b8:=HE.out;have b6:=b0.out;rw[G] at b8 b6;have R1:=Lib.hid (show D.Xp W=true from decide_eq_true b8);have R2:=Lib.hid b6;have e3:¬(j:Int)<(j:Int):=by omega
   clear b8 b6 G c3;go_wp2;go_ret;exact⟨by rw[R1.out];rfl,by rw[R2.out];exact L1.from B2⟩
end
section
open Go.ChangeMaps (setBlock)
theorem qp5 (P:Pl):P.steps=Io P.new++Vp P.C P.sup:=by
 unfold Pl.steps Vp Uo Pl.blocks;rw[List.append_assoc];rfl
def DM.Lu (D:DM)(P:Pl):Int:=if D.Xp P.steps=true then 0 else 4
def DM.Md (D:DM)(P:Pl):Pl:=if D.Xp P.steps=true then P.done else P
theorem qe2 {D:DM}{P:Pl}(h:D.Xp P.steps=true):D.Lu P=0/\D.Md P=P.done:=by unfold DM.Lu DM.Md;rw[h];exact⟨rfl,rfl⟩
theorem qjw {D:DM}{P:Pl}(h:D.Xp P.steps=false):D.Lu P=4/\D.Md P=P:=by unfold DM.Lu DM.Md;rw[h];exact⟨rfl,rfl⟩
theorem SB.set0 {w:World}{b:Nat}{S:Sp}(H:SB w b S)(x:Int):SB (w.setCell ⟨b,0,none⟩ (.int .i64 x)) b ⟨x,S.Qb,S.log,S.Jk,S.len⟩:=by
 obtain⟨t,H⟩:=H;exact⟨t,heap_setCell_same w b 0 _ t _ H⟩
section
variable {w w1:World}{p d m clock:Nat}{cur:Array Value}{l:List MapEntry}{v:Nat->Value}{Sc S T:Nat->Prop}{P:Pl}
end
theorem qbo {P:Program}{w:World}{t k e b clock:Nat}{l:List MapEntry}(u:P.underlying t=some (.map k e))(f:w.1[b]?=some (.map l.toArray clock))(ty:TypeId) :
  (Builtin.clear_ #[t] ty #[.map (some b)]).run P w=.ok (.tuple #[]) (setBlock w b (.map #[] clock)):=by
 simp[Builtin.clear_,run_underlying u,MapKept.run_getObj_map f,MapKept.run_setObj_map _ f,Result.andThen];rfl
theorem qhw {ops:Array Oper}{u:List Oper}{o:Oper}{a:Act}{w:World}{Q:Exit->Act->World->Prop}(I:o.guard=none)(x y:Operand)(B:o.op=Op.store 98 x y)
  {p d m clock:Nat} {cur:Array Value} {l:List MapEntry} {v:Nat->Value} {Sc S T:Nat->Prop} {P:Pl} (L:PL w p d m cur l clock v Sc S T P) (A:a.eval x=.pointer (some ⟨p,1,none⟩)) (S':Sp) (M:a.eval y=.agg S'.vs.toArray)
  (G:∀E b,E.1[p]?=some (.cells b 103 (0,0))->PH b d m S'->(∀j,b[36+j]?=cur[36+j]?)->Turn (λk=>k=p) w E->wpList Tryz.prog ops Q u (a.put o.dst undef) E):wpList Tryz.prog ops Q (o::u) a w:=by
 have K:w.there p 1 S'.vs.toArray.size:=by rw[List.size_toArray,S'.Zj];exact L.there (by omega)
 refine wpList_store_mid I _ x y B p 1 S'.vs.toArray A M K (by rw[List.size_toArray,S'.Zj];kernel_rfl) (all_oneCell_toArray S'.one) ?_;have F:=Us (S:=λk=>k=p) rfl S'.vs 1 w;have D:=L.ph.size;have e:=q0o p 103 S'.vs 1 w cur.toList (by rw[Array.toArray_toList];exact L.me) (by rw[S'.Zj,Array.length_toList];omega);have H:cur.toList.length=41:=by rw[Array.length_toList];exact D
 have f:∀j,(splice cur.toList 1 S'.vs)[j]?=if j=0 then cur[0]? else if j<36 then S'.vs[j-1]? else cur[j]?:=λj=>by
  unfold splice;rw[S'.Zj];by_cases h0:j=0
  ·subst h0;rw[if_pos rfl,List.getElem?_append_left (by rw[List.length_take];omega),List.getElem?_take,if_pos (by omega),Array.getElem?_toList]
  ·rw[if_neg h0];by_cases h1:j<36
   ·rw[if_pos h1,List.getElem?_append_right (by rw[List.length_take];omega),List.getElem?_append_left (by rw[List.length_take,S'.Zj];omega),List.length_take,show min 1 cur.toList.length=1 by omega]
   ·rw[if_neg h1,List.getElem?_append_right (by rw[List.length_take];omega),List.getElem?_append_right (by rw[List.length_take,S'.Zj];omega),List.length_take,S'.Zj,List.getElem?_drop,show 1+35+(j-min 1 cur.toList.length-35)=j by omega,Array.getElem?_toList]
 refine G _ _ e ⟨?_,?_,λj x A=>?_,?_⟩ (λj=>?_) F
 ·rw[List.size_toArray];unfold splice;rw[List.length_append,List.length_append,List.length_take,List.length_drop,S'.Zj];omega
 ·rw[List.getElem?_toArray,f,if_pos rfl];exact L.ph.disk
 ·have J:=(List.getElem?_eq_some_iff.1 A).1;rw[S'.Zj] at J;rw[List.getElem?_toArray,f,if_neg (by omega),if_pos (by omega),show 1+j-1=j by omega];exact A
 ·rw[List.getElem?_toArray,f,if_neg (by omega),if_neg (by omega)];exact L.ph.fresh
 ·rw[List.getElem?_toArray,f,if_neg (by omega),if_neg (by omega)]
theorem qp6 {P:Pl}(h:P.ok)(f:P.g<1099511627775):P.done.ok:=⟨h.c |> Ct.D5,h.res,h.Cm,h.sec,f,λa b e=>by cases e⟩
theorem qg0 (P:Pl)(a:Nat):P.done.live a=none:=by unfold Pl.live;split<;>rfl
theorem PL.widen {w w6:World}{p d m clock:Nat}{cur:Array Value}{l:List MapEntry}{v:Nat->Value}{Sc S T:Nat->Prop}{P:Pl}(L:PL w p d m cur l clock v Sc S T P)(L6:PL w6 p d m cur l clock v Sc S T P):PL w6 p d m cur l clock v Sc S (λk=>T k\/w.1.size<=k) P:=
 ⟨L6.me,L6.ph,L6.ct,L6.map,L6.ents,L6.look,L6.keys,λa b h=>by
  obtain⟨g,c,e,D,y⟩:=L6.row a b h;obtain⟨F,E,f,u,_⟩:=L.row a b h;rw[e] at f;injection f with f _ _;injection f with f;injection f with f _ _;subst f;have B:=Qce u (by omega);exact⟨g,c,e,D,λh=>h.elim y λh=>by omega⟩,L6.good,L6.Xu,L6.ne,λk A=>.inl (L6.sub k A),L6.ok,L6.D8⟩
attribute [local go_sem ↓] q1n q3f
theorem qhx {w:World}{p d:Nat}{A S T:Nat->Prop}{D:DM}{P:Pl}(L0:Y9 w d A D)(H:Pool w p d S T P)(d4:∀k,A k->T k)(e1:∀k,A k->¬S k)(hT:∀k,T k->k<w.1.size)(hG:¬T 1)(ht:Tab w){m0:Nat}(e8:D.Ya m0)(g9:m0<=500000)(e6:P.g<1099511627775) :
  Calls Tryz.prog 23 #[.pointer (some ⟨p,0,none⟩)] w λe w'=>e=.returned (.int .i64 (D.Lu P))/\Y9 w' d (λk=>A k\/w.1.size<=k) (D.Qk P.steps)/\Pool w' p d S (λk=>T k\/w.1.size<=k) (D.Md P)/\Turn (λk=>A k\/S k) w w':=by
 have b0:=H.ok;obtain⟨m,cur,l,clock,v,Sc,L⟩:=H;have i2:=L.Ie;have i0:=L.mlt;have a8:=b0.Cm;have a6:=qdw a8;have g1:=qbf;have e0:¬A 1:=λh=>hG (d4 _ h)
 have b1:Below w.1.size w (w.alloc (.cells Sp.zero.vs.toArray 98)):=Qm;have g3:=L.ld;have X1:=SB.new w Sp.zero 98;have d5:P.S.gen+1=P.g:=rfl;have g2:0<=P.S.gen/\P.S.gen<=1099511627775:=⟨by have:=(q12 b0.may).1;omega,by have:=b0.gen;omega⟩;obtain⟨g0,a7⟩:∃g,P.S.gen=g:=⟨_,rfl⟩;rw[a7] at g2 d5;have f2:=Lib.hid d5;have b7:=Lib.hid a8;clear d5 a8;have M:=qp5 P;obtain⟨W,hW⟩:∃W,Io P.new=W:=⟨_,rfl⟩;obtain⟨Z,hZ⟩:∃Z,Vp P.C P.sup=Z:=⟨_,rfl⟩;rw[hW,hZ] at M;have HW:=Lib.hid hW;have HZ:=Lib.hid hZ;have a2:=Lib.hid M;have I:=Lib.hid a6;have d2:=Lib.hid b0;have HT:=Lib.hid hT;have d1:=Lib.hid d4;have E:=Lib.hid e1;have d0:=Lib.hid e0;have g5:=Lib.hid a7;have LT:=L0.tight;have i1:D.n=D.n:=rfl;clear M hW hZ a6 b0 hT d4 e1 e0;go_enter Tryz.func23,Tryz.ntmps23
 go_wp2_with (first
  |(refine Ec rfl (.tmp 3) (.tmp 7) rfl w.1.size rfl P.S Sp.zero rfl X1 ?_;intro w2 X2 e3 T2;have q0:=X2.c0;rw[a7] at q0;have f0:=X2.fz 0;have X3:=X2.set0 (g0+1);rw[show (⟨g0+1,P.S.Qb,P.S.log,P.S.Jk,P.S.len⟩:Sp)=P.sup by rw[f2.out];rfl] at X3;have e7:=X3.ld)
  |fail)
 have B3:Below w.1.size w (w2.setCell ⟨w.1.size,0,none⟩ (.int .i64 (g0+1))):=(b1.trans (e3 _ (Nat.le_refl _))).setCell (p:=⟨w.1.size,0,none⟩) (Nat.le_refl _) _;generalize w2.setCell ⟨w.1.size,0,none⟩ (.int .i64 (g0+1))=w3 at X3 e7 B3 ⊢;refine (ql6 P.sup true b7.out I.out w3).mono ?_;rintro e G ⟨rfl,b4⟩;have B4:=B3.trans (b4.mono B3.size);have X4:=X3.below b4 X3.lt;have L4:=LT.below B4;have P4:=L.below B4;have t4:=ht.below B4 ht.1;have z4:w.1.size<G.1.size:=X4.lt;have e2:∀k,T k->k<w.1.size:=HT.out;have g6:(P.sup).gen=P.g:=rfl;clear X3 e7 X2 e3 T2 q0 f0 b1 g3 X1 g1;have b2:∀wr,Turn (λk=>A k/\k<w.1.size) G wr->PL wr p d m cur l clock v Sc S T P/\Tab wr/\SB wr w.1.size P.sup:=λwr X=>
  ⟨P4.other X (λk f=>d1.out k f.1) (λk f=>E.out k f.1),t4.turned X λh=>d0.out h.1,X4.block (X.block _ z4 λh=>by have:=h.2;omega)⟩
 have hF:∀wr,PL wr p d m cur l clock v Sc S T P->SB wr w.1.size P.sup->wr.cell? ⟨w.1.size,0,none⟩=some (.int .i64 P.g)/\(ldS (.pointer (some ⟨w.1.size,0,none⟩))).run Tryz.prog wr=.ok (.agg P.sup.vs.toArray) wr/\wr.cell? ⟨p,0,none⟩=some (.pointer (some ⟨d,0,none⟩)):=λwr P' X'=>⟨X'.c0,X'.ld,P'.c0⟩
 have d7:=qab (L4.below (w':=G.drew) (Below.refl _ _).drew) ⟨m,cur,l,clock,v,Sc,P4.keep (w':=G.drew) (λ_ _ _=>rfl) (Nat.le_refl _)⟩ (λk f=>d1.out k f.1) (λk f=>E.out k f.1) (λh=>d0.out h.1) (t4.below (w':=G.drew) (Below.refl _ _).drew t4.1) e8 (by omega);rw[HW.out] at d7;have U:=Lib.hid d7;have PD:PL G.drew p d m cur l clock v Sc S T P:=P4.keep (λ_ _ _=>rfl) (Nat.le_refl _);have XD:SB G.drew w.1.size P.sup:=X4;have zd:G.drew.1.size=G.1.size:=rfl;have c6:∀wr,Df G.drew wr d (λk=>A k/\k<w.1.size) (D.Qk W)->PL wr p d m cur l clock v Sc S T P/\Tab wr/\SB wr w.1.size P.sup:=λwr X=>b2 wr ⟨X.turn.os,X.turn.tape,X.turn.output,X.turn.size,X.turn.block⟩
 have y:=Lib.hid c6;have b8:=q3c W e8;have f9:W.length<=2048:=by
  rw[<-HW.out];unfold Io Pl.new;rw[List.length_map];have:=List.length_filterMap_le P.Ib (List.range P.C.n);rw[List.length_range] at this;have:=d2.out.c.1.2;omega
 clear d7 b2 c6
 cases a1:D.Xp W
 ·rw[a1] at U;go_wp2_with fail
  refine wp_region_held_drew (S:=λwr=>wr.cell? ⟨w.1.size,0,none⟩=some (.int .i64 P.g)) (by kernel_rfl) (hF _ PD XD).1 (λd3=>?_);refine wpAnyH_take (i:=0) (oi:=_) (v:=.pointer (some ⟨p,0,none⟩)) rfl (by kernel_rfl) (by kernel_rfl) (by kernel_rfl) (λ_ _ _ h=>h) (Or.inl ⟨by rfl,?_⟩) (by assumption) ?_
  ·intro wx hx;(try dsimp only at hx);go_simp
  try simp only[Act.put,List.getElem_toArray,List.getElem_cons_zero,List.setIfInBounds_toArray,List.set_cons_zero,List.set_cons_succ]
  refine wpAnyH_take (i:=1) (oi:=_) (v:=.pointer (some ⟨w.1.size,0,none⟩)) rfl (by kernel_rfl) (by kernel_rfl) (by kernel_rfl) (λ_ _ _ h=>h) (Or.inl ⟨by rfl,?_⟩) (by assumption) ?_
  ·intro wx hx;(try dsimp only at hx);go_simp
  try simp only[Act.put,List.getElem_toArray,List.getElem_cons_succ,List.getElem_cons_zero,List.setIfInBounds_toArray,List.set_cons_zero,List.set_cons_succ]
  refine wpAnyH_take (i:=2) (oi:=_) (v:=.int .i64 P.g) rfl (by kernel_rfl) (by kernel_rfl) (by kernel_rfl) (λ_ _ _ h=>h) (Or.inl ⟨by rfl,?_⟩) (by assumption) ?_
  ·intro wx hx;(try dsimp only at hx);go_simp
  try simp only[Act.put,List.getElem_toArray,List.getElem_cons_succ,List.getElem_cons_zero,List.setIfInBounds_toArray,List.set_cons_zero,List.set_cons_succ]
  refine wpAnyH_ready (rs:=[3]) (by kernel_rfl) (by simp) ?_;refine AllReadyH.cons (o:=_) rfl (λK hK=>?_) AllReadyH.nil;go_simp
  refine U.out.mono ?_;rintro e R ⟨rfl,u⟩;refine hK.out _ _ ?_ (λf1=>?_)
  ·exact (hF _ (y.out _ u).1 (y.out _ u).2.2).1
  clear hK K d3;try simp only[Act.put,List.getElem_toArray,List.getElem_cons_succ,List.getElem_cons_zero,List.setIfInBounds_toArray,List.set_cons_zero,List.set_cons_succ]
  refine wpAnyH_take (i:=4) (oi:=_) (v:=.bool true) rfl (by kernel_rfl) (by kernel_rfl) (by kernel_rfl) (λ_ _ _ h=>h) (Or.inl ⟨by rfl,?_⟩) (by assumption) ?_
  ·intro wx hx;(try dsimp only at hx);go_simp
  try simp only[Act.put,List.getElem_toArray,List.getElem_cons_succ,List.getElem_cons_zero,List.setIfInBounds_toArray,List.set_cons_zero,List.set_cons_succ]
  refine wpAnyH_take (i:=5) (oi:=_) (v:=.bool true) rfl (by kernel_rfl) (by kernel_rfl) (by kernel_rfl) (λ_ _ _ h=>h) (Or.inl ⟨by rfl,?_⟩) (by assumption) ?_
  ·intro wx hx;(try dsimp only at hx);go_simp
  try simp only[Act.put,List.getElem_toArray,List.getElem_cons_succ,List.getElem_cons_zero,List.setIfInBounds_toArray,List.set_cons_zero,List.set_cons_succ]
  refine wpAnyH_take (i:=6) (oi:=_) (v:=undef) rfl (by kernel_rfl) (by kernel_rfl) (by kernel_rfl) (λ_ _ _ h=>h) (Or.inr ⟨by kernel_rfl,rfl⟩) (by assumption) ?_;try simp only[Act.put,List.getElem_toArray,List.getElem_cons_succ,List.getElem_cons_zero,List.setIfInBounds_toArray,List.set_cons_zero,List.set_cons_succ]
  refine wpAnyH_take (i:=7) (oi:=_) (v:=undef) rfl (by kernel_rfl) (by kernel_rfl) (by kernel_rfl) (λ_ _ _ h=>h) (Or.inr ⟨by kernel_rfl,rfl⟩) (by assumption) ?_;try simp only[Act.put,List.getElem_toArray,List.getElem_cons_succ,List.getElem_cons_zero,List.setIfInBounds_toArray,List.set_cons_zero,List.set_cons_succ]
  refine wpAnyH_take (i:=8) (oi:=_) (v:=undef) rfl (by kernel_rfl) (by kernel_rfl) (by kernel_rfl) (λ_ _ _ h=>h) (Or.inr ⟨by kernel_rfl,rfl⟩) (by assumption) ?_;try simp only[Act.put,List.getElem_toArray,List.getElem_cons_succ,List.getElem_cons_zero,List.setIfInBounds_toArray,List.set_cons_zero,List.set_cons_succ]
  refine wpAnyH_take (i:=9) (oi:=_) (v:=undef) rfl (by kernel_rfl) (by kernel_rfl) (by kernel_rfl) (λ_ _ _ h=>h) (Or.inr ⟨by kernel_rfl,rfl⟩) (by assumption) ?_;try simp only[Act.put,List.getElem_toArray,List.getElem_cons_succ,List.getElem_cons_zero,List.setIfInBounds_toArray,List.set_cons_zero,List.set_cons_succ]
  refine wpAnyH_take (i:=10) (oi:=_) (v:=undef) rfl (by kernel_rfl) (by kernel_rfl) (by kernel_rfl) (λ_ _ _ h=>h) (Or.inr ⟨by kernel_rfl,rfl⟩) (by assumption) ?_;try simp only[Act.put,List.getElem_toArray,List.getElem_cons_succ,List.getElem_cons_zero,List.setIfInBounds_toArray,List.set_cons_zero,List.set_cons_succ]
  refine wpAnyH_take (i:=11) (oi:=_) (v:=undef) rfl (by kernel_rfl) (by kernel_rfl) (by kernel_rfl) (λ_ _ _ h=>h) (Or.inr ⟨by kernel_rfl,rfl⟩) (by assumption) ?_;try simp only[Act.put,List.getElem_toArray,List.getElem_cons_succ,List.getElem_cons_zero,List.setIfInBounds_toArray,List.set_cons_zero,List.set_cons_succ]
  refine wpAnyH_take (i:=12) (oi:=_) (v:=undef) rfl (by kernel_rfl) (by kernel_rfl) (by kernel_rfl) (λ_ _ _ h=>h) (Or.inr ⟨by kernel_rfl,rfl⟩) (by assumption) ?_;try simp only[Act.put,List.getElem_toArray,List.getElem_cons_succ,List.getElem_cons_zero,List.setIfInBounds_toArray,List.set_cons_zero,List.set_cons_succ]
  refine wpAnyH_take (i:=13) (oi:=_) (v:=undef) rfl (by kernel_rfl) (by kernel_rfl) (by kernel_rfl) (λ_ _ _ h=>h) (Or.inr ⟨by kernel_rfl,rfl⟩) (by assumption) ?_;try simp only[Act.put,List.getElem_toArray,List.getElem_cons_succ,List.getElem_cons_zero,List.setIfInBounds_toArray,List.set_cons_zero,List.set_cons_succ]
  refine wpAnyH_take (i:=14) (oi:=_) (v:=undef) rfl (by kernel_rfl) (by kernel_rfl) (by kernel_rfl) (λ_ _ _ h=>h) (Or.inr ⟨by kernel_rfl,rfl⟩) (by assumption) ?_;try simp only[Act.put,List.getElem_toArray,List.getElem_cons_succ,List.getElem_cons_zero,List.setIfInBounds_toArray,List.set_cons_zero,List.set_cons_succ]
  refine wpAnyH_take (i:=15) (oi:=_) (v:=undef) rfl (by kernel_rfl) (by kernel_rfl) (by kernel_rfl) (λ_ _ _ h=>h) (Or.inr ⟨by kernel_rfl,rfl⟩) (by assumption) ?_;try simp only[Act.put,List.getElem_toArray,List.getElem_cons_succ,List.getElem_cons_zero,List.setIfInBounds_toArray,List.set_cons_zero,List.set_cons_succ]
  refine wpAnyH_take (i:=16) (oi:=_) (v:=.bool true) rfl (by kernel_rfl) (by kernel_rfl) (by kernel_rfl) (λ_ _ _ h=>h) (Or.inl ⟨by rfl,?_⟩) (by assumption) ?_
  ·intro wx hx;(try dsimp only at hx);go_simp
  try simp only[Act.put,List.getElem_toArray,List.getElem_cons_succ,List.getElem_cons_zero,List.setIfInBounds_toArray,List.set_cons_zero,List.set_cons_succ]
  refine wpAnyH_done (by kernel_rfl) ?_ _;have J:D.Zy W≠0:=of_decide_eq_false a1;obtain⟨s1,s2⟩:=q2z (l':=Z) J;rw[<-a2.out] at s1 s2;have hR:D.Xp P.steps=false:=by unfold DM.Xp;rw[s1];exact decide_eq_false J
  have HR:=Lib.hid hR;have S2:=Lib.hid s2;have P5:=(y.out _ u).1;clear J s1 s2 hR a1;go_wp2;go_ret;rw[(qjw HR.out).1,(qjw HR.out).2,S2.out];refine⟨rfl,u.U8.mono λk f h=>h.elim (λh=>.inl h.1) λh=>.inr (by rw[zd] at h;omega),⟨m,cur,l,clock,v,Sc,L.widen P5⟩,?_⟩;have T5:Turn A w R:=(Qv (B4.drew) |>.mono (S':=A) λ_ h=>h).trans u.turn λk f=>.inl f.1
  exact T5.mono λk f=>.inl f
 ·rw[a1] at U;have J:D.Zy W=0:=of_decide_eq_true a1;obtain⟨D1,b5⟩:∃D1,D.Qk W=D1:=⟨_,rfl⟩;have s1:D.Zy P.steps=D1.Zy Z:=by rw[a2.out,q2v,if_pos J,b5]
  have s2:D.Qk P.steps=D1.Qk Z:=by rw[a2.out,q2w,if_pos J,b5]
  rw[b5] at U y b8;have S2:=Lib.hid s2;have d6:=λ(R:World) (u:Df G.drew R d (λk=>A k/\k<w.1.size) D1)=>qa0 u.U8 (y.out _ u).1.ct (λk f=>⟨λe=>by
    subst e;exact f.elim (λh=>E.out _ h.1 L.Xu.1) λh=>by rw[zd] at h;omega,λh=>f.elim (λh2=>E.out _ h2.1 (L.Xu.2.2 k h)) λh2=>by have:=e2 k (L.sub k (L.Xu.2.2 k h));rw[zd] at h2;omega⟩)
   (λf=>f.elim (λh=>d0.out h.1) λh=>by rw[zd] at h;have:=ht.1;omega) P.sup b7.out I.out d2.out.sec (y.out _ u).2.1 b8 (by omega)
  rw[HZ.out] at d6;have b9:∀(R O:World),Df G.drew R d (λk=>A k/\k<w.1.size) D1->Turn (λk=>(A k/\k<w.1.size)\/G.drew.1.size<=k) R O->Turn (λk=>A k/\k<w.1.size) G.drew O:=λR O u X=>u.turn.trans X λk f=>f
  have Q:∀R O,Df G.drew R d (λk=>A k/\k<w.1.size) D1->Turn (λk=>(A k/\k<w.1.size)\/G.drew.1.size<=k) R O->PL O p d m cur l clock v Sc S T P/\SB O w.1.size P.sup/\Turn A w O:=λR O u X=>by
   have Y:=b9 R O u X;refine⟨PD.other Y (λk f=>d1.out k f.1) λk f=>E.out k f.1,XD.block (Y.block _ (by rw[zd];omega) λh=>by have:=h.2;omega),(Qv (B4.drew) |>.mono (S':=A) λ_ h=>h).trans Y λk f=>.inl f.1⟩
  have B:=Lib.hid Q;have b3:=Lib.hid d6;clear J b5 s2 a1 b9 Q d6
  cases F:D1.Xp Z
  ·have hR:D.Xp P.steps=false:=by unfold DM.Xp at F ⊢;rw[s1];exact F
   have HR:=Lib.hid hR;rw[F] at b3;clear hR F s1;go_wp2_with fail
   go_region_held3 (λwr=>wr.cell? ⟨w.1.size,0,none⟩=some (.int .i64 P.g)/\(ldS (.pointer (some ⟨w.1.size,0,none⟩))).run Tryz.prog wr=.ok (.agg P.sup.vs.toArray) wr/\wr.cell? ⟨p,0,none⟩=some (.pointer (some ⟨d,0,none⟩)))
    (first|assumption|exact hF _ PD XD|exact hF _ (y.out _ u).1 (y.out _ u).2.2|exact hF _ (B.out _ _ u L6.turn).1 (B.out _ _ u L6.turn).2.1)
    (first
     |(go_at_call 53;refine U.out.mono ?_;rintro e R ⟨rfl,u⟩)
     |(go_at_call 51;refine (b3.out _ u).mono ?_;rintro e O ⟨rfl,L6⟩)
     |fail)
   obtain⟨P6,X6,T6⟩:=B.out _ _ u L6.turn;go_wp2;go_ret;rw[(qjw HR.out).1,(qjw HR.out).2,S2.out];exact⟨rfl,L6.U8.mono λk f h=>h.elim (λh=>h.elim (λh=>.inl h.1) λh=>.inr (by rw[zd] at h;omega)) λh=>.inr (by have:=u.turn.size;rw[zd] at this;omega),⟨m,cur,l,clock,v,Sc,L.widen P6⟩,T6.mono λk f=>.inl f⟩
  ·have hR:D.Xp P.steps=true:=by unfold DM.Xp at F ⊢;rw[s1];exact F
   have HR:=Lib.hid hR;rw[F] at b3;clear hR F s1;go_wp2_with fail
   go_region_held3 (λwr=>wr.cell? ⟨w.1.size,0,none⟩=some (.int .i64 P.g)/\(ldS (.pointer (some ⟨w.1.size,0,none⟩))).run Tryz.prog wr=.ok (.agg P.sup.vs.toArray) wr/\wr.cell? ⟨p,0,none⟩=some (.pointer (some ⟨d,0,none⟩)))
    (first|assumption|exact hF _ PD XD|exact hF _ (y.out _ u).1 (y.out _ u).2.2|exact hF _ (B.out _ _ u L6.turn).1 (B.out _ _ u L6.turn).2.1)
    (first
     |(go_at_call 53;refine U.out.mono ?_;rintro e R ⟨rfl,u⟩)
     |(go_at_call 51;refine (b3.out _ u).mono ?_;rintro e O ⟨rfl,L6⟩)
     |fail)
   obtain⟨P6,X6,T6⟩:=B.out _ _ u L6.turn;have g8:=X6.ld;have D6:Y9 O d (λk=>A k\/w.1.size<=k) (D.Qk P.steps):=by
    rw[S2.out];exact L6.U8.mono λk f h=>h.elim (λh=>h.elim (λh=>.inl h.1) λh=>.inr (by rw[zd] at h;omega)) λh=>.inr (by have:=u.turn.size;rw[zd] at this;omega)
   go_wp2_with (first
    |(refine qhw rfl (.tmp 35) (.tmp 33) rfl P6 rfl P.sup rfl ?_;intro w7 d9 d8 e9 f4 T7;have C7:Yt w7 p 36 Sc P.C:=P6.ct.around P6.me d8 (λj _=>f4 j) (λk f e=>(P6.ne k f).1 e.symm) λk f hs=>T7.block k f λe=>(P6.ne k hs).1 e)
    |(go_at_call 54;refine (q9y C7).mono ?_;rintro e w8 ⟨rfl,C8,T8⟩;have b6:=(T8.block p (Wi d8) λh=>(P6.ne p h).1 rfl).trans d8;have g7:=Rj b6 e9.fresh;have c7:=(T7.block m P6.mlt λe=>P6.p_m e.symm).trans P6.map;have c8:=(T8.block m (Wi c7) λh=>(P6.ne m h).2 rfl).trans c7;have e4:=λty=>qbo (P:=Tryz.prog) (t:=101) (k:=3) (e:=31) Tryz.underlying101 c8 ty)
    |fail)
   have T9:Turn (λk=>k=m) w8 (setBlock w8 m (.map #[] clock)):=q0p _ rfl;have c9:(setBlock w8 m (.map #[] clock)).1[m]?=some (.map #[] clock):=q27 (Wi c8);clear e4;generalize setBlock w8 m (.map #[] clock)=w9 at T9 c9 ⊢;go_wp2;go_ret;rw[(qe2 HR.out).1,(qe2 HR.out).2];have e5:∀k,(A k\/w.1.size<=k)->k<O.1.size->k≠p/\k≠m/\¬Sc k:=λk f _=>by
    have hp:=L.Xu;refine⟨λe=>?_,λe=>?_,λh=>?_⟩
    ·subst e;exact f.elim (λh=>E.out _ h hp.1) λh=>by omega
    ·subst e;exact f.elim (λh=>E.out _ h hp.2.1) λh=>by omega
    ·exact f.elim (λh2=>E.out _ h2 (hp.2.2 k h)) λh2=>by have:=e2 k (L.sub k (hp.2.2 k h));omega
   have i3:=T7.size;have i4:=T8.size;have g4:=(T9.block p (Wi b6) L.p_m).trans b6;have C9:Yt w9 p 36 Sc P.C.commit:=C8.keep (T9.block p (Wi b6) L.p_m) λk f hs=>T9.block k f λe=>(L.ne k hs).2 e
   have D9:Y9 w9 d (λk=>A k\/w.1.size<=k) (D.Qk P.steps):=D6.keep λk f hs=>by
    obtain⟨h1,h2,h3⟩:=e5 k hs f;exact (T9.block k (by omega) h2).trans ((T8.block k (by omega) h3).trans (T7.block k f h1))
   have f3:Turn S O w9:=((T7.mono λk f=>by rw[f];exact L.Xu.1).trans (T8.mono L.Xu.2.2) λk f=>.inl f).trans T9 λk f=>by rw[f];exact .inl L.Xu.2.1
   refine⟨rfl,D9,⟨m,d9,[],clock,v,Sc,g4,e9,C9,c9,⟨λe he=>(by cases he),List.nodup_nil,List.nodup_nil,λe he=>(by cases he)⟩,λa=>?_,λe he=>(by cases he),λa b h=>?_,λa b h=>(by cases h),L.Xu,L.ne,λk f=>.inl (L.sub k f),qp6 d2.out e6,I.out⟩,(T6.mono λk f=>.inl f).then (f3.mono λk f=>.inr f)⟩
   ·rw[qg0];rfl
   ·rw[qg0] at h;cases h
end
