/- The laws of edit: does -/
import Derived.Test.YtnnbaihfboacoaaGreatDoorEt37
import Derived.Test.YtnnbaihfboacoaaGreatDoorHcEv1
namespace Go.Proofs.YtnnbaihfboacoaaGreatDoor
open Go Go.RowKit Go.Proofs
set_option maxHeartbeats 16000000
set_option maxRecDepth 100000
theorem qr1 {k:Kd}{l:List Qc}(h:∃x∈l,x.k.same k=true):(Jv k l).length<l.length:=by
 obtain⟨x,f,e⟩:=h;exact List.length_filter_lt_length_iff_exists.2 ⟨x,f,by rw[e];simp⟩
theorem qr2 {k:Kd}{l:List Qc}(h:¬∃x∈l,x.k.same k=true):Jv k l=l:=by
 refine List.filter_eq_self.2 λx f=>?_
 cases e:x.k.same k with
 |false=>rfl
 |true=>exact absurd ⟨x,f,e⟩ h
theorem qwv {k:Kd}{v:List UInt8}{l:List Qc}(e:Qd l):Zo k v false l≠[]:=by
 cases l with
 |nil=>simp[Zo]
 |cons x r=>
  rw[q1p e];split
  ·simp
  ·split<;>simp
def Qaq (z:Int)(k:Kd)(V:Option Addr)(q c:Nat):List Value:=[.int .i64 z,.int .i64 k.obj,.int .i64 k.kind,.int .i64 k.off,.slice V q c]
section
variable {b:Nat}{w w':World}{d p:Nat}{U:Nat->Prop}{D:DM}{P:Pl}{H H0:List Int}{m:Nat}{g:Int}{root:Int}{its row:List Qc}
theorem Ed.weak {m':Nat}{g':Int}(E:Ed b w d p U D P H m g)(hm:m<=m')(hg:g<=g'):Ed b w d p U D P H m' g':=⟨E.sys,E.low,E.tab,E.keep,E.Ya.mono hm,by have:=E.gen;omega⟩
structure Qa8 (b:Nat)(w w':World)(d p:Nat)(U U':Nat->Prop)(D D':DM)(P P':Pl)(H0:List Int)(row row':List Qc)(r:Int)(A:Option Addr)(n c:Nat)(m:Nat)(g:Int)(z:Int):Prop where
 ed:Ed b w' d p U' D' P' (Jr r++H0) (m+2100) (g+1)
 tree:Zb (P'.store D') r row'
 stay:J8 U' w' A n c row'
 Qd:Qd row'
 fine:∀x∈row',Ze x
 len:row'.length<=row.length+1
 n:P'.C.n=P.C.n
 kept:P'.C.kept=P.C.kept\/P'.C.kept=P.C.used
 old:∀l a t,a∈H0->Qp (P.store D) l a t->Qp (P'.store D') l a t
 sub:∀k,U' k->U k\/w.heap.size<=k
 turn:Turn U w w'
 same:md z 8≠7->D'=D/\U'=U/\P.like P'
def qub (b:Nat)(w:World)(d p:Nat)(U:Nat->Prop)(D:DM)(P:Pl)(H0:List Int)(row:List Qc)(m:Nat)(g:Int)(z:Int)(e:Ending)(w':World):Prop:=
 ∃r A n c f B u y,e=.returned (.tuple #[.int .i64 r,.slice A n c,.bool true])/\Qa8 b w w' d p U B D u P y H0 row f r A n c m g z
theorem qb4 {A:Option Addr}{n c:Nat}{z:Int}(E:Ed b w d p U D P (Jr root++H0) m g)(f:Zb (P.store D) root row)(B:Qd row)(u:∀x∈row,Ze x)(S:J8 U w A n c row)(e:Below w.1.size w w'):Qa8 b w w' d p U U D D P P H0 row row root A n c m g z:=
 ⟨(E.below e).weak (by omega) (by omega),f,S.below e,B,u,by omega,rfl,.inl rfl,λ_ _ _ _ h=>h,λk y=>.inl y,Qv e,λ_=>⟨rfl,rfl,.refl _⟩⟩
theorem qh2 {A:Option Addr}{n c:Nat}{z r:Int}{P':Pl}{y f:World}{e:List Qc}(B:Below w.1.size w y)(N:Bd b y f d p U D P P' r H0 e m g)(u:Below f.1.size f w')(I:Qd e)(E:∀x∈e,Ze x)(S:J8 U w' A n c e)(G:e.length<=row.length+1):Qa8 b w w' d p U U D D P P' H0 row e r A n c m g z:=
 ⟨(N.ed.below u).weak (by omega) (by omega),N.tree,S,I,E,G,N.n,.inl (q4z N.like N.n),N.old,λk F=>.inl F,((Qv B).trans N.turn λ_ h=>.inl h).trans (Qv (S:=U) u) λ_ h=>.inl h,λ_=>⟨rfl,rfl,N.like⟩⟩
end
theorem quc {b:Nat}{w:World}{d p:Nat}{U:Nat->Prop}{D:DM}{P:Pl}{H0:List Int}{m:Nat}{g:Int}{root:Int}{row:List Qc}(E:Ed b w d p U D P (Jr root++H0) m g)(hb:1<b)(hT:Zb (P.store D) root row)(O:Qd row)(hf:∀x∈row,Ze x)(i5:row.length<=300)(c9:H0.length<=10000)(hm:m<=500000)(hg:g<=1000000)(a2:17<=P.C.free)
  (A:Option Addr) (n c:Nat) (S:J8 U w A n c row) (z:Int) (hz:-9223372036854775808<=z/\z<=9223372036854775807) (k:Kd) (K:-9223372036854775808<=k.off/\k.off<=9223372036854775807) (V:Option Addr) (q cV:Nat) (v:List UInt8) (hV:Sl w V q cV v) (_:v≠[]->∀g,q01 V=some g->¬U g) (d1:q<=140737488355328) :
  Calls Tryz.prog 12 #[.pointer (some ⟨p,0,none⟩),.int .i64 root,.slice A n c,.agg #[.int .i64 z,.int .i64 k.obj,.int .i64 k.kind,.int .i64 k.off,.slice V q cV]] w (qub b w d p U D P H0 row m g z):=by
 have d0:∀k,U k->k<w.1.size:=λk K=>(E.low k K).2
 have d3:=Lib.hid (q5x z 8 hz (by omega) (by omega));obtain⟨s,hs⟩:∃s,md z 8=s:=⟨_,rfl⟩;have d5:s<8:=by rw[<-hs];exact quq z (by omega)
 rw[hs] at d3;obtain⟨ob,d4⟩:∃o,Obj.cells (Qaq z k V q cV).toArray 33=o:=⟨_,rfl⟩;have b1:Below w.1.size w (w.alloc ob):=Qm;have R1:RB (w.alloc ob) w.1.size (Qaq z k V q cV):=by rw[<-d4];exact⟨_,heap_alloc_new w _⟩
 have i4:(w.alloc ob).1.size=w.1.size+1:=by simp
 have x1:=R1.cell 1 rfl;have x2:=R1.cell 2 rfl;have x3:=R1.cell 3 rfl;have b2:Below (w.alloc ob).1.size (w.alloc ob) ((w.alloc ob).alloc (.cells #[.int .i64 k.obj,.int .i64 k.kind,.int .i64 k.off] 30)):=Qm;have K2:KB ((w.alloc ob).alloc (.cells #[.int .i64 k.obj,.int .i64 k.kind,.int .i64 k.off] 30)) (w.alloc ob).1.size k:=KB.new (w.alloc ob) k.obj k.kind k.off _;have R2:=R1.below b2 R1.lt;have x0:=R2.cell 0 rfl;rw[i4] at K2;unfold Qaq at d4;go_enter Tryz.func12,Tryz.ntmps12
 go_wp2_with fail
 have F:Below w.1.size w ((w.alloc ob).alloc (.cells #[.int .i64 k.obj,.int .i64 k.kind,.int .i64 k.off] 30)):=b1.trans (b2.mono b1.size);have z2:w.1.size+2=((w.alloc ob).alloc (.cells #[.int .i64 k.obj,.int .i64 k.kind,.int .i64 k.off] 30)).1.size:=by simp
 clear R1 x1 x2 x3 b2 d4;generalize (w.alloc ob).alloc (.cells #[.int .i64 k.obj,.int .i64 k.kind,.int .i64 k.off] 30)=w2 at *;refine (d3.out w2).mono ?_;rintro e w3 ⟨rfl,rfl⟩;have z0:w.1.size<w2.1.size:=by omega
 have y4:=R2.cell 4 rfl;have f4:=hV.below F;have E2:=E.below F;have S2:=S.below F;have i6:∀k,U k->b<=k:=λk K=>(E.low k K).1
 have i7:b<=w.1.size:=by
  obtain⟨_,_,_,h,_⟩:=E.sys;exact h.base
 have e5:row.length=n:=S.len;clear d3;by_cases h4:s<4
 ·as_aux_lemma=>
  have f1:=Lib.hid (q4i v V q cV w2 f4 d1);have i8:28<v.length\/v.length<=28:=by omega
  have j8:=hV.len;have i0:=Lib.hid (λw=>q52 k k.may rfl w);have e8:s≠7:=by omega
  replace hs:=Lib.hid hs;have i3:s=0\/s=1\/s=2\/s=3:=by omega
  clear h4 d5;rcases i3 with rfl|rfl|rfl|rfl
  all_goals (
   go_wp2_with fail
   refine f1.out.mono ?_;rintro e w3 ⟨A3,c3,rfl,O3,b3⟩;have K3:=K2.below b3 K2.lt;have Y:=K3.c0;have Z:=K3.c1;have k2:=K3.c2;go_wp2_with fail
   refine (i0.out w3).mono ?_;rintro e X ⟨rfl,b4⟩;have M:=K3.below b4 K3.lt;clear Y Z k2;have Y:=M.c0;have Z:=M.c1;have k2:=M.c2;have d8:=b3.trans (b4.mono b3.size);have E4:=E2.below d8;have O4:=O3.below b4;have f:=F.trans (d8.mono F.size)
   cases Q:k.may with
   |false=>
    have HB:=Lib.hid (qkq (p:=p) root k A3 q c3 d1 (.inl Q) X);have i9:k.may=false:=Q;go_wp2_with fail
    refine HB.out.mono ?_;rintro e w5 ⟨rfl,b5⟩;go_wp2_with fail
    go_ret3;exact⟨root,A,n,c,row,_,_,_,rfl,qb4 E hT O hf S (f.trans (b5.mono f.size))⟩
   |true=>
    by_cases f2:28<q
    ·have HB:=Lib.hid (qkq (p:=p) root k A3 q c3 d1 (.inr f2) X);have d9:(28:Int)<(q:Int):=by omega
     go_wp2_with fail
     refine HB.out.mono ?_;rintro e w5 ⟨rfl,b5⟩;go_wp2_with fail
     go_ret3;exact⟨root,A,n,c,row,_,_,_,rfl,qb4 E hT O hf S (f.trans (b5.mono f.size))⟩
    ·have f0:(Zd v).length<=28:=by rw[q84];omega
     have d6:Ze ⟨k,Zd v⟩:=⟨Q,f0,q8s k v⟩;have e4:=q70 O3 (U:=U) (λk K=>Nat.lt_of_lt_of_le (d0 k K) F.size);have G:∀y∈Zo k (Zd v) false row,Ze y:=λy hy=>by
      rcases q41 O y hy with rfl|h
      ·exact d6
      ·exact hf y h
     have a8:=q25 (k:=k) (v:=Zd v) O;have a6:=q5f (k:=k) (v:=Zd v) O;have a7:=qwv (k:=k) (v:=Zd v) O;obtain⟨b0,u⟩:∃L,Zo k (Zd v) false row=L:=⟨_,rfl⟩;have HP:=Lib.hid (E4.Ey (root:=root) hb hT O hf k (Zd v) d6 (by omega) c9 A3 q c3 O4.sl (λ_=>e4) a2 b0 u);rw[u] at G a8 a6 a7;have d9:¬(28:Int)<(q:Int):=by omega
     have j0:k.may=true:=Q;go_wp2_with fail
     refine HP.out.mono ?_;rintro e w5 ⟨r5,P5,rfl,N5⟩;have X5:=N5.turn;have O5:=O4.sl.turned' X5 λ_=>e4
     have S5:=(S.below f).turned X5;have K5:=M.keep (X5.block _ M.lt λh=>by have:=d0 _ h;omega);clear Y Z k2;have Y:=K5.c0;have Z:=K5.c1;have k2:=K5.c2;have HR:=qbj (FU U) A n c row k A3 q c3 (Zd v) w5 S5.row O5 (by omega) (by omega) (λV v hv j7 g hg f3=>by have:=hv g hg;have:=(N5.ed.low g f3).2;omega);rw[u] at HR;replace HR:=Lib.hid HR;have T:r5≠0:=λh=>a7 ((q50 N5).1 h)
     have g1:(r5 != 0)=true:=by simpa using T
     have g2:decide (r5=0)=false:=by simpa using T
     clear HP T G a8 a6 a7;go_wp2_with fail
     refine HR.out.mono ?_;rintro e w6 ⟨A6,n6,c6,rfl,I6,b8,b6⟩;go_wp2_with fail
     go_ret3;have G:∀y∈b0,Ze y:=λy hy=>by
      rw[<-u] at hy;rcases q41 O y hy with rfl|h
      ·exact d6
      ·exact hf y h
     exact⟨r5,A6,n6,c6,b0,_,_,P5,rfl,qh2 f N5 b6 (by rw[<-u];exact q25 O) G (qqx (λk K=>(N5.ed.low k K).2) I6 b8) (by rw[<-u];exact q5f O)⟩)
 ·by_cases h7:s=7
  ·as_aux_lemma=>
   subst h7;have HC:=Lib.hid (E2.commit hb hm hg);clear d5 h4;go_wp2_with fail
   refine HC.out.mono ?_;rintro e w3 ⟨rfl,E3,X3,c7⟩;go_wp2_with fail
   go_ret3;exact⟨root,A,n,c,row,_,_,_,rfl,⟨E3,(by
    rcases hT with h|⟨lv,h0,h1,h2,h3⟩
    ·exact .inl h
    ·exact .inr ⟨lv,h0,c7 _ _ _ h1,h2,h3⟩),S2.commit X3,O,hf,by omega,rfl,.inr rfl,λl a t ha h=>c7 l a t h,λk K=>K.1.elim .inl λh=>.inr (by omega),(Qv F).trans X3 λ_ h=>.inl h,λh=>absurd hs h⟩⟩
  ·as_aux_lemma=>
   have e3:s=4\/s=5\/s=6:=by omega
   have e8:s≠7:=h7;have HD:=λ(X:World) (R:Below w.1.size w X) (I:Kd) (J:∃x∈row,x.k.same I=true)=>(E.below R).Ti (root:=root) hb hT O hf I (by omega) c9 J a2 _ rfl
   have HN:=λ(X:World) (R:Below w.1.size w X) (I:Kd) (J:¬∃x∈row,x.k.same I=true)=>(E.below R).Qaz (root:=root) hb hT O hf I (by omega) c9 J
   have HR:=λ(w5:World) (S5:J8 U w5 A n c row) (I:Kd) (t:Bool) (ht:decide ((Jv I row).length<row.length)=t)=>qqw (FU U) A n c row I w5 S5.row (by omega) t ht
   replace HD:=Lib.hid HD;replace HN:=Lib.hid HN;replace HR:=Lib.hid HR;replace hs:=Lib.hid hs;clear h4 h7 d5;have g8:=And.intro K2.c0 (And.intro K2.c1 K2.c2);obtain⟨Y,Z,k2⟩:=g8;have B:(s=4\/s=5)\/(s=6/\n=0)\/(s=6/\0<n):=by omega
   clear e3 e8;have i1:n<=300:=by omega
   replace e5:=Lib.hid e5;have M:=K2;have f:=F;rcases B with (rfl|rfl)|⟨rfl,B⟩|⟨rfl,B⟩
   case' inr.inr=>
    have d7:=Lib.hid (q5x k.off n K B (by omega) w2);obtain⟨t,ht⟩:∃t,md k.off n=t:=⟨_,rfl⟩;have e9:t<n:=by rw[<-ht];exact quq _ B
    rw[ht] at d7;obtain⟨y,hy⟩:∃y,Qj row t=y:=⟨_,rfl⟩;obtain⟨gb,o,V1,vp,vq,rfl,g0,i2,c0,c1,c2,-,-,-⟩:=S2.cell e9;rw[hy] at c0 c1 c2;have e1:(t:Int)<(n:Int):=by omega
    have e0:(0:Int)<=(t:Int):=by omega
    have e2:(0:Int)<(n:Int):=by omega
    obtain⟨d2,a1⟩:=S2.Zq.bounds;unfold maxLen at a1;replace ht:=Lib.hid ht;replace hy:=Lib.hid hy;clear M f;go_wp2_with fail
    refine d7.out.mono ?_;rintro e w3 ⟨rfl,rfl⟩;go_wp2_with (first
     |(refine q0x rfl (.tmp 11) (.tmp 82) rfl (w.1.size+1) rfl y.k _ rfl K2 ?_;intro X M T4;have f:Below w.1.size w X:=F.trans (T4.below (λk K=>by have K:k=w.1.size+1:=K;omega) (by omega));clear Y Z k2;have Y:=M.c0;have Z:=M.c1;have k2:=M.c2;clear K;obtain⟨I,g7⟩:∃x,y.k=x:=⟨_,rfl⟩;rw[g7] at M Y Z k2)
     |fail)
    clear e0 e1 e2 e9 i2 g0 d2 a1 c0 c1 c2 T4
   case' inl.inl=>
    generalize w2=X at *;generalize k=I at *;go_wp2_with fail
   case' inl.inr=>
    generalize w2=X at *;generalize k=I at *;go_wp2_with fail
   case' inr.inl=>
    generalize w2=X at *;generalize k=I at *;have e2:¬(0:Int)<(n:Int):=by omega
    replace B:=Lib.hid B;go_wp2_with fail
    clear e2
   all_goals (
    by_cases J:∃x∈row,x.k.same I=true
    ·have g9:=qr1 J;refine (HD.out X f I J).mono ?_;rintro e w5 ⟨r5,P5,rfl,N5⟩;have X5:=N5.turn;have S5:=(S.below f).turned X5;have K5:=M.keep (X5.block _ M.lt λh=>by have:=d0 _ h;omega);clear Y Z k2;have Y:=K5.c0;have Z:=K5.c1;have k2:=K5.c2;have b7:=Lib.hid (HR.out w5 S5 I true (decide_eq_true g9));have T:=q50 N5;go_wp2_with fail
     refine b7.out.mono ?_;rintro e w6 ⟨A6,n6,c6,rfl,I6,b8,b6⟩;have e6:(Jv I row).length=n6:=I6.Zq.len;have e7:r5=0↔n6=0:=by
      rw[T,<-e6];exact List.length_eq_zero_iff.symm
     obtain⟨R,b9⟩:∃R,decide (n6=0)=R:=⟨_,rfl⟩;have g1:decide ((n6:Int)=0)=R:=by rw[<-b9];exact decide_eq_decide.2 ⟨λh=>by omega,λh=>by omega⟩
     have g2:decide (r5=0)=R:=by rw[<-b9];exact decide_eq_decide.2 e7
     have g3:(r5==0)=R:=by rw[<-g2];rfl
     have g4:((n6:Int)==0)=R:=by rw[<-g1];rfl
     have g5:(n6==0)=R:=by rw[<-b9];rfl
     have g6:(R==R)=true:=by simp
     clear e7 T b9 e6 b7;go_wp2_with fail
     go_ret3;exact⟨r5,A6,n6,c6,Jv I row,_,_,P5,rfl,qh2 f N5 b6 (O.sublist List.filter_sublist) (λx hx=>hf x ((List.mem_filter.1 hx).1)) (qqx (λk K=>(N5.ed.low k K).2) I6 b8) (by omega)⟩
    ·have f9:=qr2 J;refine (HN.out X f I J).mono ?_;rintro e w5 ⟨rfl,b5⟩;have c8:=f.trans (b5.mono f.size);have S5:=S.below c8;have K5:=M.below b5 M.lt;clear Y Z k2;have Y:=K5.c0;have Z:=K5.c1;have k2:=K5.c2;have b7:=Lib.hid (HR.out w5 S5 I false (decide_eq_false (by rw[f9];omega)));go_wp2_with fail
     refine b7.out.mono ?_;rintro e w6 ⟨A6,n6,c6,rfl,I6,b8,b6⟩;go_wp2_with fail
     go_ret3;exact⟨root,_,n,c,row,_,_,_,rfl,qb4 E hT O hf S (c8.trans (b6.mono c8.size))⟩)
section
open Go.ChangeShapes Go.WideShapes Go.ChangeAt Go.Deep
structure Ai where
 z:Int
 k:Kd
 V:Option Addr
 q:Nat
 c:Nat
 v:List UInt8
def Ai.vs (o:Ai):List Value:=Qaq o.z o.k o.V o.q o.c
structure Ai.here (o:Ai)(W:World):Prop where
 z:i64 o.z
 off:i64 o.k.off
 sl:Sl W o.V o.q o.c o.v
 few:o.q<=140737488355328
def Nv (w:World)(A:Option Addr)(n c:Nat)(os:List Ai):Prop:=Jf w 5 A n c (os.map Ai.vs)/\∀o∈os,o.here w
def opAt (os:List Ai)(j:Nat):Ai:=os.getD j ⟨0,⟨0,0,0⟩,none,0,0,[]⟩
theorem Nv.cell {w:World}{A:Option Addr}{n c:Nat}{os:List Ai}(h:Nv w A n c os){j:Nat}(hj:j<n):∃g o,A=some ⟨g,o,none⟩/\g<w.1.size/\(opAt os j).here w/\
  ∀w',Below w.1.size w w'->w'.cell? ⟨g,o+j*5,none⟩=some (.int .i64 (opAt os j).z)/\w'.cell? ⟨g,o+j*5+1,none⟩=some (.int .i64 (opAt os j).k.obj)/\w'.cell? ⟨g,o+j*5+2,none⟩=some (.int .i64 (opAt os j).k.kind)/\w'.cell? ⟨g,o+j*5+3,none⟩=some (.int .i64 (opAt os j).k.off)/\w'.cell? ⟨g,o+j*5+4,none⟩=some (.slice (opAt os j).V (opAt os j).q (opAt os j).c):=by
 obtain⟨h1,h2⟩:=h;have B:os.length=n:=by have:=h1.1;rwa [List.length_map] at this
 have y:os[j]?=some (opAt os j):=by unfold opAt;simp[List.getD,show j<os.length by omega]
 obtain⟨g,o,rfl,e,_,u⟩:=h1.2.2.2 j _ (by rw[List.getElem?_map,y];rfl);refine⟨g,o,rfl,e,h2 _ (List.mem_of_getElem? y),λw' f=>?_⟩;exact⟨(f.cell (p:=⟨g,_,none⟩) e).trans (u 0 _ rfl),(f.cell (p:=⟨g,_,none⟩) e).trans (u 1 _ rfl),(f.cell (p:=⟨g,_,none⟩) e).trans (u 2 _ rfl),(f.cell (p:=⟨g,_,none⟩) e).trans (u 3 _ rfl),(f.cell (p:=⟨g,_,none⟩) e).trans (u 4 _ rfl)⟩
section
variable {H:Type}{enc:TypeId × Value->H}{W:World}
theorem qb5 {P:Program}{e:TypeId}:∀{l:List (DataW H)} {d:DataW H},d∈l->∀n∈d.weights P e,n∈DataW.weightsAll P e l
 |d'::r,d,hd,n,hn=>by
  simp only[DataW.weightsAll,List.mem_append];rcases List.mem_cons.1 hd with rfl|h
  ·exact Or.inl hn
  ·exact Or.inr (qb5 h n hn)
theorem qr3 {P:Program}{t e:TypeId}{s:Nat}(hs:0<s)(ht:P.underlying t=some (.slice e))(hc:P.cellsOf e=s){fuel:Nat}{v:Value}{y:DataW H × List MemPlace}
  (hf:DataW.trod enc P W 0 (λ_=>true) true fuel t [v]=some y):∃A n c I,v=.slice A n c/\Jf W s A n c I/\∀r∈I,∃f x,DataW.trod enc P W 0 (λ_=>true) true f e r=some x/\∀n∈x.1.weights P e,n∈y.1.weights P t:=by
 rcases Deep.open_slice ht hf with⟨E,_⟩|⟨a,len,cap,m,f,D,Pl,E,_,hl,hm,O,hy,K⟩
 ·obtain rfl:v=.slice none 0 0:=by simpa using E
  exact⟨_,_,_,[],rfl,q67 W s,λr Q=>by simp at Q⟩
 ·obtain rfl:v=.slice (some a) len cap:=by simpa using E
  rw[if_pos rfl] at O;have key:∀i,i<len->∃B:List Value,B.length=s/\(∀j,j<s->W.cell? ((a.add (i*s)).add j)=B[j]?)/\∃f x,DataW.trod enc P W 0 (λ_=>true) true f e B=some x/\∀n∈x.1.weights P e,n∈y.1.weights P t:=λi M=>by
   obtain⟨B,T,g2⟩:=K i (by omega);rw[hc] at T;obtain⟨_,G,J⟩:=World.cells?_some T;refine⟨B,G,λj u=>J j u,_,_,g2,λn hn=>?_⟩;rw[hy];simp only[DataW.weights,ht,List.mem_cons,List.mem_append];exact .inr (.inl (qb5 (List.mem_map.2 ⟨i,List.mem_range.2 M,rfl⟩) n hn))
  obtain⟨g,o,sp⟩:=a;have ks:0<len->sp=none:=λh0=>by
   obtain⟨B,h1,h2,_⟩:=key 0 h0;have Y:=h2 0 hs;rw[List.getElem?_eq_getElem (by omega)] at Y;exact q7o (show W.cell? ⟨g,o,sp⟩=some (B[0]'(by omega)) by simpa [Addr.add] using Y)
  classical
  let F:Nat->List Value:=λi=>if h:i<len then (key i h).choose else []
  have hF:∀i (h:i<len),F i=(key i h).choose:=λi h=>dif_pos h
  refine⟨_,_,_,(List.range len).map F,rfl,⟨by simp,hl,hm,λj x R=>?_⟩,λr Q=>?_⟩
  ·have u:j<len:=by have:=(List.getElem?_eq_some_iff.1 R).1;simpa using this
   rw[List.getElem?_map,List.getElem?_range u] at R;obtain rfl:F j=x:=by simpa using R
   obtain rfl:=ks (by omega);rw[hF j u];have Z:=(key j u).choose_spec;generalize (key j u).choose=X at Z ⊢;obtain⟨q1,q2,_⟩:=Z;have q3:∀i v,X[i]?=some v->W.cell? ⟨g,o+j*s+i,none⟩=some v:=λi v hv=>by
    have K:i<s:=by have:=(List.getElem?_eq_some_iff.1 hv).1;omega
    have:=q2 i K;rw[Addr.add_mid,Addr.add_mid,hv] at this;exact this
   exact⟨g,o,rfl,World.block_lt_of_cell? W _ (q3 0 _ (List.getElem?_eq_getElem (by omega))),q1,q3⟩
  ·obtain⟨j,u,rfl⟩:=List.mem_map.1 Q;have u:=List.mem_range.1 u;rw[hF j u];exact (key j u).choose_spec.2.2
theorem q9c {m:Nat}{c:Value}{y:DataW H × List MemPlace}(h:DataW.trod enc Tryz.prog W 0 (λ_=>true) true m 3 [c]=some y):∃z,c=.int .i64 z/\i64 z:=by
 obtain⟨z,e,_,f⟩:=DataW.trod_int Tryz.underlying3 h;exact⟨z,by simpa using e,bounds_i64 f⟩
theorem qmv {α:Type}{e:List (List Value)}{Q:α->Prop}{f:α->List Value}(h:∀r∈e,∃x,r=f x/\Q x):∃u:List α,e=u.map f/\∀x∈u,Q x:=by
 induction e with
 |nil=>exact⟨[],rfl,λx A=>by cases A⟩
 |cons r l ih=>
  obtain⟨x,A,E⟩:=h r (List.mem_cons_self ..);obtain⟨u,h1,h2⟩:=ih λr F=>h r (List.mem_cons_of_mem _ F)
  exact⟨x::u,by rw[List.map_cons,<-A,<-h1],λy B=>by
   rcases List.mem_cons.1 B with rfl|B
   ·exact E
   ·exact h2 y B⟩
theorem qmw {fuel:Nat}{v0 f u:Value}{y:DataW H × List MemPlace}(J:DataW.trod enc Tryz.prog W 0 (λ_=>true) true fuel 30 [v0,f,u]=some y):∃k:Kd,[v0,f,u]=[.int .i64 k.obj,.int .i64 k.kind,.int .i64 k.off]/\i64 k.off:=by
 obtain⟨A,m,_,_,M,B,e⟩:=DataW.trod_struct Tryz.underlying30 J;have K:Tryz.prog.cellsOf 3=1:=by kernel_rfl
 have E:DataW.trod enc Tryz.prog W 0 (λ_=>true) true m 3 (List.take (Tryz.prog.cellsOf 3) (List.drop 0 [v0,f,u]))=A[0]?:=e 0 _ rfl;have F:DataW.trod enc Tryz.prog W 0 (λ_=>true) true m 3 (List.take (Tryz.prog.cellsOf 3) (List.drop 1 [v0,f,u]))=A[1]?:=e 1 _ rfl;have G:DataW.trod enc Tryz.prog W 0 (λ_=>true) true m 3 (List.take (Tryz.prog.cellsOf 3) (List.drop 2 [v0,f,u]))=A[2]?:=e 2 _ rfl;have O:A.length=3:=B;rw[K,List.getElem?_eq_getElem (by omega)] at E F G;obtain⟨a,rfl,_⟩:=q9c (by simpa using E);obtain⟨b,rfl,_⟩:=q9c (by simpa using F);obtain⟨c,rfl,I⟩:=q9c (by simpa using G);exact⟨⟨a,b,c⟩,rfl,I⟩
theorem qr4 {fuel:Nat}{v:Value}{y:DataW H × List MemPlace}(u:DataW.trod enc Tryz.prog W 0 (λ_=>true) true fuel 31 [v]=some y)(G:∀n∈y.1.weights Tryz.prog 31,n<=reachBytes):∃A n c l,v=.slice A n c/\Sl W A n c l/\n<=140737488355328:=by
 obtain⟨A,n,c,l,rfl,F⟩:=qca Gy Tryz.underlying5 u;refine⟨A,n,c,l,rfl,F,?_⟩;rcases Deep.open_slice Gy.sl u with⟨e,_⟩|⟨a,len,cap,m,f,D,Pl,e,_,K,hm,E,I,J⟩
 ·injection e with e;injection e with _ h2;omega
 ·injection e with e;injection e with _ h2;have B:Tryz.prog.bytesOf 5=1:=by kernel_rfl
  have:=G ((((List.range len).map D).length+((List.range (m-len)).map λj=>D (len+j)).length)*Tryz.prog.bytesOf 5) (by rw[I];simp[DataW.weights,Gy.sl]);rw[B,List.length_map,List.length_range,List.length_map,List.length_range] at this;have M:reachBytes=140737488351232:=rfl;omega
theorem qmx {α:Type}:∀{l:List α},l.length=5->∃a b c d e,l=[a,b,c,d,e]
 |[a,b,c,d,e],_=>⟨a,b,c,d,e,rfl⟩
theorem qr5 {fuel:Nat}{B:List Value}{y:DataW H × List MemPlace}(X:DataW.trod enc Tryz.prog W 0 (λ_=>true) true fuel 33 B=some y)(hw:∀n∈y.1.weights Tryz.prog 33,n<=reachBytes):∃o:Ai,B=o.vs/\o.here W:=by
 obtain⟨u,m,_,hy,Z,G,e⟩:=DataW.trod_struct Tryz.underlying33 X;have F:B.length=5:=by rw[Z];kernel_rfl
 obtain⟨v0,I,J,v3,v4,rfl⟩:=qmx F;have k1:Tryz.prog.cellsOf 3=1:=by kernel_rfl
 have k2:Tryz.prog.cellsOf 30=3:=by kernel_rfl
 have k3:Tryz.prog.cellsOf 31=1:=by kernel_rfl
 have K:DataW.trod enc Tryz.prog W 0 (λ_=>true) true m 3 (List.take (Tryz.prog.cellsOf 3) (List.drop 0 [v0,I,J,v3,v4]))=u[0]?:=e 0 _ rfl;have M:DataW.trod enc Tryz.prog W 0 (λ_=>true) true m 30 (List.take (Tryz.prog.cellsOf 30) (List.drop 1 [v0,I,J,v3,v4]))=u[1]?:=e 1 _ rfl;have O:DataW.trod enc Tryz.prog W 0 (λ_=>true) true m 31 (List.take (Tryz.prog.cellsOf 31) (List.drop 4 [v0,I,J,v3,v4]))=u[2]?:=e 2 _ rfl;have hx:u.length=3:=G;rw[k1,List.getElem?_eq_getElem (by omega)] at K;rw[k2,List.getElem?_eq_getElem (by omega)] at M;rw[k3,List.getElem?_eq_getElem (by omega)] at O;obtain⟨z,rfl,hz⟩:=q9c (by simpa using K);obtain⟨k,f,Y⟩:=qmw (by simpa using M);have E:Tryz.prog.underlying 33=_:=Tryz.underlying33;obtain⟨A,n,c,l,rfl,hs,hn⟩:=qr4 (by simpa using O) λn hn=>hw n (by
  rw[hy];simp only[DataW.weights,E];exact DataW.weights_mem_each (j:=2) rfl (by rw[List.getElem?_map,List.getElem?_eq_getElem (by omega)];rfl) n hn)
 injection f with Q f;injection f with R f;injection f with T _;subst Q R T;exact⟨⟨z,k,A,n,c,l⟩,rfl,⟨hz,Y,hs,hn⟩⟩
theorem qmy {v:Value}{d:DataW H}{ps:List MemPlace}(I:∃a len cap,v=.slice a len cap)(h:DataW.Trod enc Tryz.prog W 0 (λ_=>true) true 22 v d ps)(J:∀n∈d.weights Tryz.prog 22,n<=reachBytes):∃A n c os,v=.slice A n c/\Nv W A n c os:=by
 obtain⟨a,len,cap,rfl⟩:=I;obtain⟨fuel,B⟩:=h;obtain⟨A,n,c,M,e,G,F⟩:=qr3 (s:=5) (by omega) Tryz.underlying22 (by kernel_rfl) B;obtain⟨os,rfl,E⟩:=qmv (f:=Ai.vs) (Q:=λo=>o.here W) λr hm=>by
  obtain⟨f,y,K,hn⟩:=F r hm;exact qr5 K λn u=>J n (hn n u)
 exact⟨A,n,c,os,e,G,E⟩
end
end
