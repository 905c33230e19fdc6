/- The laws of edit: does -/
import Derived.Test.YtnnbaihfboacoaaGreatDoorEu40
import Derived.Test.YtnnbaihfboacoaaGreatDoorHbD
namespace Go.Proofs.YtnnbaihfboacoaaGreatDoor
open Go Go.RowKit Go.Proofs
set_option maxHeartbeats 16000000
set_option maxRecDepth 100000
theorem qr1 {k:Kd}{l:List Qc}(h:∃x∈l,x.k.same k=true):(Jv k l).length<l.length:=by
 obtain⟨x,f,e⟩:=h;exact List.length_filter_lt_length_iff_exists.2 ⟨x,f,by rw[e];simp⟩
theorem qr2 {k:Kd}{l:List Qc}(h:¬∃x∈l,x.k.same k=true):Jv k l=l:=by
 refine List.filter_eq_self.2 λx f=>?_
 cases e:x.k.same k with
 |false=>rfl
 |true=>exact absurd ⟨x,f,e⟩ h
theorem qwv {k:Kd}{v:List UInt8}{l:List Qc}(e:Qd l):Zo k v false l≠[]:=by
 cases l with
 |nil=>simp[Zo]
 |cons x r=>
  rw[q1p e];split
  ·simp
  ·split<;>simp
def Qaq (z:Int)(k:Kd)(V:Option Addr)(q c:Nat):List Value:=[.int .i64 z,.int .i64 k.obj,.int .i64 k.kind,.int .i64 k.off,.slice V q c]
section
variable {b:Nat}{w w':World}{d p:Nat}{U:Nat->Prop}{D:DM}{P:Pl}{H H0:List Int}{m:Nat}{g:Int}{root:Int}{its row:List Qc}
theorem Ed.weak {m':Nat}{g':Int}(E:Ed b w d p U D P H m g)(hm:m<=m')(hg:g<=g'):Ed b w d p U D P H m' g':=⟨E.sys,E.low,E.tab,E.keep,E.Ya.mono hm,by have:=E.gen;omega⟩
structure Qa8 (b:Nat)(w w':World)(d p:Nat)(U U':Nat->Prop)(D D':DM)(P P':Pl)(H0:List Int)(row row':List Qc)(r:Int)(A:Option Addr)(n c:Nat)(m:Nat)(g:Int)(z:Int):Prop where
 ed:Ed b w' d p U' D' P' (Jr r++H0) (m+2100) (g+1)
 tree:Zb (P'.store D') r row'
 stay:J8 U' w' A n c row'
 Qd:Qd row'
 fine:∀x∈row',Ze x
 len:row'.length<=row.length+1
 n:P'.C.n=P.C.n
 kept:P'.C.kept=P.C.kept\/P'.C.kept=P.C.used
 old:∀l a t,a∈H0->Qp (P.store D) l a t->Qp (P'.store D') l a t
 sub:∀k,U' k->U k\/w.heap.size<=k
 turn:Turn U w w'
 same:md z 8≠7->D'=D/\U'=U/\P.like P'
def qub (b:Nat)(w:World)(d p:Nat)(U:Nat->Prop)(D:DM)(P:Pl)(H0:List Int)(row:List Qc)(m:Nat)(g:Int)(z:Int)(e:Ending)(w':World):Prop:=
 ∃r A n c f B u y,e=.returned (.tuple #[.int .i64 r,.slice A n c,.bool true])/\Qa8 b w w' d p U B D u P y H0 row f r A n c m g z
theorem qb4 {A:Option Addr}{n c:Nat}{z:Int}(E:Ed b w d p U D P (Jr root++H0) m g)(f:Zb (P.store D) root row)(B:Qd row)(u:∀x∈row,Ze x)(S:J8 U w A n c row)(e:Below w.1.size w w'):Qa8 b w w' d p U U D D P P H0 row row root A n c m g z:=
 ⟨(E.below e).weak (by omega) (by omega),f,S.below e,B,u,by omega,rfl,.inl rfl,λ_ _ _ _ h=>h,λk y=>.inl y,Qv e,λ_=>⟨rfl,rfl,.refl _⟩⟩
theorem qh2 {A:Option Addr}{n c:Nat}{z r:Int}{P':Pl}{y f:World}{e:List Qc}(B:Below w.1.size w y)(N:Bd b y f d p U D P P' r H0 e m g)(u:Below f.1.size f w')(I:Qd e)(E:∀x∈e,Ze x)(S:J8 U w' A n c e)(G:e.length<=row.length+1):Qa8 b w w' d p U U D D P P' H0 row e r A n c m g z:=
 ⟨(N.ed.below u).weak (by omega) (by omega),N.tree,S,I,E,G,N.n,.inl (q4z N.like N.n),N.old,λk F=>.inl F,((Qv B).trans N.turn λ_ h=>.inl h).trans (Qv (S:=U) u) λ_ h=>.inl h,λ_=>⟨rfl,rfl,N.like⟩⟩
end
theorem quc {b:Nat}{w:World}{d p:Nat}{U:Nat->Prop}{D:DM}{P:Pl}{H0:List Int}{m:Nat}{g:Int}{root:Int}{row:List Qc}(E:Ed b w d p U D P (Jr root++H0) m g)(hb:1<b)(hT:Zb (P.store D) root row)(O:Qd row)(hf:∀x∈row,Ze x)(i5:row.length<=300)(c9:H0.length<=10000)(hm:m<=500000)(hg:g<=1000000)(a2:17<=P.C.free)
  (A:Option Addr) (n c:Nat) (S:J8 U w A n c row) (z:Int) (hz:-9223372036854775808<=z/\z<=9223372036854775807) (k:Kd) (K:-9223372036854775808<=k.off/\k.off<=9223372036854775807) (V:Option Addr) (q cV:Nat) (v:List UInt8) (hV:Sl w V q cV v) (_:v≠[]->∀g,q01 V=some g->¬U g) (d1:q<=140737488355328) :
  Calls Tryz.prog 12 #[.pointer (some ⟨p,0,none⟩),.int .i64 root,.slice A n c,.agg #[.int .i64 z,.int .i64 k.obj,.int .i64 k.kind,.int .i64 k.off,.slice V q cV]] w (qub b w d p U D P H0 row m g z):=by
 have d0:∀k,U k->k<w.1.size:=λk K=>(E.low k K).2
 have d3:=Lib.hid (q5x z 8 hz (by omega) (by omega));obtain⟨s,hs⟩:∃s,md z 8=s:=⟨_,rfl⟩;have d5:s<8:=by rw[<-hs];exact quq z (by omega)
 rw[hs] at d3;obtain⟨ob,d4⟩:∃o,Obj.cells (Qaq z k V q cV).toArray 33=o:=⟨_,rfl⟩;have b1:Below w.1.size w (w.alloc ob):=Qm;have R1:RB (w.alloc ob) w.1.size (Qaq z k V q cV):=by rw[<-d4];exact⟨_,heap_alloc_new w _⟩
 have i4:(w.alloc ob).1.size=w.1.size+1:=by simp
 have x1:=R1.cell 1 rfl;have x2:=R1.cell 2 rfl;have x3:=R1.cell 3 rfl;have b2:Below (w.alloc ob).1.size (w.alloc ob) ((w.alloc ob).alloc (.cells #[.int .i64 k.obj,.int .i64 k.kind,.int .i64 k.off] 30)):=Qm;have K2:KB ((w.alloc ob).alloc (.cells #[.int .i64 k.obj,.int .i64 k.kind,.int .i64 k.off] 30)) (w.alloc ob).1.size k:=KB.new (w.alloc ob) k.obj k.kind k.off _;have R2:=R1.below b2 R1.lt;have x0:=R2.cell 0 rfl;rw[i4] at K2;unfold Qaq at d4;go_enter Tryz.func12,Tryz.ntmps12
 go_wp2_with fail
 have F:Below w.1.size w ((w.alloc ob).alloc (.cells #[.int .i64 k.obj,.int .i64 k.kind,.int .i64 k.off] 30)):=b1.trans (b2.mono b1.size);have z2:w.1.size+2=((w.alloc ob).alloc (.cells #[.int .i64 k.obj,.int .i64 k.kind,.int .i64 k.off] 30)).1.size:=by simp
 clear R1 x1 x2 x3 b2 d4;generalize (w.alloc ob).alloc (.cells #[.int .i64 k.obj,.int .i64 k.kind,.int .i64 k.off] 30)=w2 at *;refine (d3.out w2).mono ?_;rintro e w3 ⟨rfl,rfl⟩;have z0:w.1.size<w2.1.size:=by omega
 have y4:=R2.cell 4 rfl;have f4:=hV.below F;have E2:=E.below F;have S2:=S.below F;have i6:∀k,U k->b<=k:=λk K=>(E.low k K).1
 have i7:b<=w.1.size:=by
  obtain⟨_,_,_,h,_⟩:=E.sys;exact h.base
 have e5:row.length=n:=S.len;clear d3;by_cases h4:s<4
 ·as_aux_lemma=>
  have f1:=Lib.hid (q4i v V q cV w2 f4 d1);have i8:28<v.length\/v.length<=28:=by omega
  have j8:=hV.len;have i0:=Lib.hid (λw=>q52 k k.may rfl w);have e8:s≠7:=by omega
  replace hs:=Lib.hid hs;have i3:s=0\/s=1\/s=2\/s=3:=by omega
  clear h4 d5;rcases i3 with rfl|rfl|rfl|rfl
  all_goals (
   go_wp2_with fail
   refine f1.out.mono ?_;rintro e w3 ⟨A3,c3,rfl,O3,b3⟩;have K3:=K2.below b3 K2.lt;have k0:=K3.c0;have k1:=K3.c1;have k2:=K3.c2;go_wp2_with fail
   refine (i0.out w3).mono ?_;rintro e Z ⟨rfl,b4⟩;have M:=K3.below b4 K3.lt;clear k0 k1 k2;have k0:=M.c0;have k1:=M.c1;have k2:=M.c2;have d8:=b3.trans (b4.mono b3.size);have E4:=E2.below d8;have O4:=O3.below b4;have f:=F.trans (d8.mono F.size)
   cases T:k.may with
   |false=>
    have HB:=Lib.hid (qkq (p:=p) root k A3 q c3 d1 (.inl T) Z);have i9:k.may=false:=T;go_wp2_with fail
    refine HB.out.mono ?_;rintro e w5 ⟨rfl,b5⟩;go_wp2_with fail
    go_ret3;exact⟨root,A,n,c,row,_,_,_,rfl,qb4 E hT O hf S (f.trans (b5.mono f.size))⟩
   |true=>
    by_cases f2:28<q
    ·have HB:=Lib.hid (qkq (p:=p) root k A3 q c3 d1 (.inr f2) Z);have d9:(28:Int)<(q:Int):=by omega
     go_wp2_with fail
     refine HB.out.mono ?_;rintro e w5 ⟨rfl,b5⟩;go_wp2_with fail
     go_ret3;exact⟨root,A,n,c,row,_,_,_,rfl,qb4 E hT O hf S (f.trans (b5.mono f.size))⟩
    ·have f0:(Zd v).length<=28:=by rw[q84];omega
     have d6:Ze ⟨k,Zd v⟩:=⟨T,f0,q8s k v⟩;have e4:=q70 O3 (U:=U) (λk K=>Nat.lt_of_lt_of_le (d0 k K) F.size);have G:∀y∈Zo k (Zd v) false row,Ze y:=λy hy=>by
      rcases q41 O y hy with rfl|h
      ·exact d6
      ·exact hf y h
     have a8:=q25 (k:=k) (v:=Zd v) O;have a6:=q5f (k:=k) (v:=Zd v) O;have a7:=qwv (k:=k) (v:=Zd v) O;obtain⟨b0,u⟩:∃L,Zo k (Zd v) false row=L:=⟨_,rfl⟩;have HP:=Lib.hid (E4.Ey (root:=root) hb hT O hf k (Zd v) d6 (by omega) c9 A3 q c3 O4.sl (λ_=>e4) a2 b0 u);rw[u] at G a8 a6 a7;have d9:¬(28:Int)<(q:Int):=by omega
     have j0:k.may=true:=T;go_wp2_with fail
     refine HP.out.mono ?_;rintro e w5 ⟨r5,P5,rfl,N5⟩;have X5:=N5.turn;have O5:=O4.sl.turned' X5 λ_=>e4
     have S5:=(S.below f).turned X5;have K5:=M.keep (X5.block _ M.lt λh=>by have:=d0 _ h;omega);clear k0 k1 k2;have k0:=K5.c0;have k1:=K5.c1;have k2:=K5.c2;have HR:=qbj (FU U) A n c row k A3 q c3 (Zd v) w5 S5.row O5 (by omega) (by omega) (λV v hv j7 g hg f3=>by have:=hv g hg;have:=(N5.ed.low g f3).2;omega);rw[u] at HR;replace HR:=Lib.hid HR;have Y:r5≠0:=λh=>a7 ((q50 N5).1 h)
     have g1:(r5 != 0)=true:=by simpa using Y
     have g2:decide (r5=0)=false:=by simpa using Y
     clear HP Y G a8 a6 a7;go_wp2_with fail
     refine HR.out.mono ?_;rintro e w6 ⟨A6,n6,c6,rfl,I6,b8,b6⟩;go_wp2_with fail
     go_ret3;have G:∀y∈b0,Ze y:=λy hy=>by
      rw[<-u] at hy;rcases q41 O y hy with rfl|h
      ·exact d6
      ·exact hf y h
     exact⟨r5,A6,n6,c6,b0,_,_,P5,rfl,qh2 f N5 b6 (by rw[<-u];exact q25 O) G (qqx (λk K=>(N5.ed.low k K).2) I6 b8) (by rw[<-u];exact q5f O)⟩)
 ·by_cases h7:s=7
  ·as_aux_lemma=>
   subst h7;have HC:=Lib.hid (E2.commit hb hm hg);clear d5 h4;go_wp2_with fail
   refine HC.out.mono ?_;rintro e w3 ⟨rfl,E3,X3,c7⟩;go_wp2_with fail
   go_ret3;exact⟨root,A,n,c,row,_,_,_,rfl,⟨E3,(by
    rcases hT with h|⟨lv,h0,h1,h2,h3⟩
    ·exact .inl h
    ·exact .inr ⟨lv,h0,c7 _ _ _ h1,h2,h3⟩),S2.commit X3,O,hf,by omega,rfl,.inr rfl,λl a t ha h=>c7 l a t h,λk K=>K.1.elim .inl λh=>.inr (by omega),(Qv F).trans X3 λ_ h=>.inl h,λh=>absurd hs h⟩⟩
  ·as_aux_lemma=>
   have e3:s=4\/s=5\/s=6:=by omega
   have e8:s≠7:=h7;have HD:=λ(Z:World) (X:Below w.1.size w Z) (I:Kd) (J:∃x∈row,x.k.same I=true)=>(E.below X).Ti (root:=root) hb hT O hf I (by omega) c9 J a2 _ rfl
   have HN:=λ(Z:World) (X:Below w.1.size w Z) (I:Kd) (J:¬∃x∈row,x.k.same I=true)=>(E.below X).Qaz (root:=root) hb hT O hf I (by omega) c9 J
   have HR:=λ(w5:World) (S5:J8 U w5 A n c row) (I:Kd) (t:Bool) (ht:decide ((Jv I row).length<row.length)=t)=>qqw (FU U) A n c row I w5 S5.row (by omega) t ht
   replace HD:=Lib.hid HD;replace HN:=Lib.hid HN;replace HR:=Lib.hid HR;replace hs:=Lib.hid hs;clear h4 h7 d5;have g8:=And.intro K2.c0 (And.intro K2.c1 K2.c2);obtain⟨k0,k1,k2⟩:=g8;have B:(s=4\/s=5)\/(s=6/\n=0)\/(s=6/\0<n):=by omega
   clear e3 e8;have i1:n<=300:=by omega
   replace e5:=Lib.hid e5;have M:=K2;have f:=F;rcases B with (rfl|rfl)|⟨rfl,B⟩|⟨rfl,B⟩
   case' inr.inr=>
    have d7:=Lib.hid (q5x k.off n K B (by omega) w2);obtain⟨t,ht⟩:∃t,md k.off n=t:=⟨_,rfl⟩;have e9:t<n:=by rw[<-ht];exact quq _ B
    rw[ht] at d7;obtain⟨y,hy⟩:∃y,Qj row t=y:=⟨_,rfl⟩;obtain⟨gb,o,V1,vp,vq,rfl,g0,i2,c0,c1,c2,-,-,-⟩:=S2.cell e9;rw[hy] at c0 c1 c2;have e1:(t:Int)<(n:Int):=by omega
    have e0:(0:Int)<=(t:Int):=by omega
    have e2:(0:Int)<(n:Int):=by omega
    obtain⟨d2,a1⟩:=S2.Zq.bounds;unfold maxLen at a1;replace ht:=Lib.hid ht;replace hy:=Lib.hid hy;clear M f;go_wp2_with fail
    refine d7.out.mono ?_;rintro e w3 ⟨rfl,rfl⟩;go_wp2_with (first
     |(refine q0x rfl (.tmp 11) (.tmp 82) rfl (w.1.size+1) rfl y.k _ rfl K2 ?_;intro Z M T4;have f:Below w.1.size w Z:=F.trans (T4.below (λk K=>by have K:k=w.1.size+1:=K;omega) (by omega));clear k0 k1 k2;have k0:=M.c0;have k1:=M.c1;have k2:=M.c2;clear K;obtain⟨I,g7⟩:∃x,y.k=x:=⟨_,rfl⟩;rw[g7] at M k0 k1 k2)
     |fail)
    clear e0 e1 e2 e9 i2 g0 d2 a1 c0 c1 c2 T4
   case' inl.inl=>
    generalize w2=Z at *;generalize k=I at *;go_wp2_with fail
   case' inl.inr=>
    generalize w2=Z at *;generalize k=I at *;go_wp2_with fail
   case' inr.inl=>
    generalize w2=Z at *;generalize k=I at *;have e2:¬(0:Int)<(n:Int):=by omega
    replace B:=Lib.hid B;go_wp2_with fail
    clear e2
   all_goals (
    by_cases J:∃x∈row,x.k.same I=true
    ·have g9:=qr1 J;refine (HD.out Z f I J).mono ?_;rintro e w5 ⟨r5,P5,rfl,N5⟩;have X5:=N5.turn;have S5:=(S.below f).turned X5;have K5:=M.keep (X5.block _ M.lt λh=>by have:=d0 _ h;omega);clear k0 k1 k2;have k0:=K5.c0;have k1:=K5.c1;have k2:=K5.c2;have b7:=Lib.hid (HR.out w5 S5 I true (decide_eq_true g9));have Y:=q50 N5;go_wp2_with fail
     refine b7.out.mono ?_;rintro e w6 ⟨A6,n6,c6,rfl,I6,b8,b6⟩;have e6:(Jv I row).length=n6:=I6.Zq.len;have e7:r5=0↔n6=0:=by
      rw[Y,<-e6];exact List.length_eq_zero_iff.symm
     obtain⟨X,b9⟩:∃X,decide (n6=0)=X:=⟨_,rfl⟩;have g1:decide ((n6:Int)=0)=X:=by rw[<-b9];exact decide_eq_decide.2 ⟨λh=>by omega,λh=>by omega⟩
     have g2:decide (r5=0)=X:=by rw[<-b9];exact decide_eq_decide.2 e7
     have g3:(r5==0)=X:=by rw[<-g2];rfl
     have g4:((n6:Int)==0)=X:=by rw[<-g1];rfl
     have g5:(n6==0)=X:=by rw[<-b9];rfl
     have g6:(X==X)=true:=by simp
     clear e7 Y b9 e6 b7;go_wp2_with fail
     go_ret3;exact⟨r5,A6,n6,c6,Jv I row,_,_,P5,rfl,qh2 f N5 b6 (O.sublist List.filter_sublist) (λx hx=>hf x ((List.mem_filter.1 hx).1)) (qqx (λk K=>(N5.ed.low k K).2) I6 b8) (by omega)⟩
    ·have f9:=qr2 J;refine (HN.out Z f I J).mono ?_;rintro e w5 ⟨rfl,b5⟩;have c8:=f.trans (b5.mono f.size);have S5:=S.below c8;have K5:=M.below b5 M.lt;clear k0 k1 k2;have k0:=K5.c0;have k1:=K5.c1;have k2:=K5.c2;have b7:=Lib.hid (HR.out w5 S5 I false (decide_eq_false (by rw[f9];omega)));go_wp2_with fail
     refine b7.out.mono ?_;rintro e w6 ⟨A6,n6,c6,rfl,I6,b8,b6⟩;go_wp2_with fail
     go_ret3;exact⟨root,_,n,c,row,_,_,_,rfl,qb4 E hT O hf S (c8.trans (b6.mono c8.size))⟩)
section
open Go.ChangeShapes Go.WideShapes Go.ChangeAt Go.Deep
structure Ai where
 z:Int
 k:Kd
 V:Option Addr
 q:Nat
 c:Nat
 v:List UInt8
def Ai.vs (o:Ai):List Value:=Qaq o.z o.k o.V o.q o.c
structure Ai.here (o:Ai)(W:World):Prop where
 z:i64 o.z
 off:i64 o.k.off
 sl:Sl W o.V o.q o.c o.v
 few:o.q<=140737488355328
def Nv (w:World)(A:Option Addr)(n c:Nat)(os:List Ai):Prop:=Jf w 5 A n c (os.map Ai.vs)/\∀o∈os,o.here w
def opAt (os:List Ai)(j:Nat):Ai:=os.getD j ⟨0,⟨0,0,0⟩,none,0,0,[]⟩
theorem Nv.cell {w:World}{A:Option Addr}{n c:Nat}{os:List Ai}(h:Nv w A n c os){j:Nat}(hj:j<n):∃g o,A=some ⟨g,o,none⟩/\g<w.1.size/\(opAt os j).here w/\
  ∀w',Below w.1.size w w'->w'.cell? ⟨g,o+j*5,none⟩=some (.int .i64 (opAt os j).z)/\w'.cell? ⟨g,o+j*5+1,none⟩=some (.int .i64 (opAt os j).k.obj)/\w'.cell? ⟨g,o+j*5+2,none⟩=some (.int .i64 (opAt os j).k.kind)/\w'.cell? ⟨g,o+j*5+3,none⟩=some (.int .i64 (opAt os j).k.off)/\w'.cell? ⟨g,o+j*5+4,none⟩=some (.slice (opAt os j).V (opAt os j).q (opAt os j).c):=by
 obtain⟨h1,h2⟩:=h;have B:os.length=n:=by have:=h1.1;rwa [List.length_map] at this
 have y:os[j]?=some (opAt os j):=by unfold opAt;simp[List.getD,show j<os.length by omega]
 obtain⟨g,o,rfl,e,_,u⟩:=h1.2.2.2 j _ (by rw[List.getElem?_map,y];rfl);refine⟨g,o,rfl,e,h2 _ (List.mem_of_getElem? y),λw' f=>?_⟩;exact⟨(f.cell (p:=⟨g,_,none⟩) e).trans (u 0 _ rfl),(f.cell (p:=⟨g,_,none⟩) e).trans (u 1 _ rfl),(f.cell (p:=⟨g,_,none⟩) e).trans (u 2 _ rfl),(f.cell (p:=⟨g,_,none⟩) e).trans (u 3 _ rfl),(f.cell (p:=⟨g,_,none⟩) e).trans (u 4 _ rfl)⟩
section
variable {H:Type}{enc:TypeId × Value->H}{W:World}
theorem qb5 {P:Program}{e:TypeId}:∀{l:List (DataW H)} {d:DataW H},d∈l->∀n∈d.weights P e,n∈DataW.weightsAll P e l
 |d'::r,d,hd,n,hn=>by
  simp only[DataW.weightsAll,List.mem_append];rcases List.mem_cons.1 hd with rfl|h
  ·exact Or.inl hn
  ·exact Or.inr (qb5 h n hn)
theorem qr3 {P:Program}{t e:TypeId}{s:Nat}(hs:0<s)(ht:P.underlying t=some (.slice e))(hc:P.cellsOf e=s){fuel:Nat}{v:Value}{y:DataW H × List MemPlace}
  (hf:DataW.trod enc P W 0 (λ_=>true) true fuel t [v]=some y):∃A n c I,v=.slice A n c/\Jf W s A n c I/\∀r∈I,∃f x,DataW.trod enc P W 0 (λ_=>true) true f e r=some x/\∀n∈x.1.weights P e,n∈y.1.weights P t:=by
 rcases Deep.open_slice ht hf with⟨E,_⟩|⟨a,len,cap,m,f,D,Pl,E,_,hl,hm,O,hy,K⟩
 ·obtain rfl:v=.slice none 0 0:=by simpa using E
  exact⟨_,_,_,[],rfl,q67 W s,λr T=>by simp at T⟩
 ·obtain rfl:v=.slice (some a) len cap:=by simpa using E
  rw[if_pos rfl] at O;have key:∀i,i<len->∃B:List Value,B.length=s/\(∀j,j<s->W.cell? ((a.add (i*s)).add j)=B[j]?)/\∃f x,DataW.trod enc P W 0 (λ_=>true) true f e B=some x/\∀n∈x.1.weights P e,n∈y.1.weights P t:=λi M=>by
   obtain⟨B,Z,g2⟩:=K i (by omega);rw[hc] at Z;obtain⟨_,G,J⟩:=World.cells?_some Z;refine⟨B,G,λj u=>J j u,_,_,g2,λn hn=>?_⟩;rw[hy];simp only[DataW.weights,ht,List.mem_cons,List.mem_append];exact .inr (.inl (qb5 (List.mem_map.2 ⟨i,List.mem_range.2 M,rfl⟩) n hn))
  obtain⟨g,o,sp⟩:=a;have ks:0<len->sp=none:=λh0=>by
   obtain⟨B,h1,h2,_⟩:=key 0 h0;have h3:=h2 0 hs;rw[List.getElem?_eq_getElem (by omega)] at h3;exact q7o (show W.cell? ⟨g,o,sp⟩=some (B[0]'(by omega)) by simpa [Addr.add] using h3)
  classical
  let F:Nat->List Value:=λi=>if h:i<len then (key i h).choose else []
  have hF:∀i (h:i<len),F i=(key i h).choose:=λi h=>dif_pos h
  refine⟨_,_,_,(List.range len).map F,rfl,⟨by simp,hl,hm,λj x Y=>?_⟩,λr T=>?_⟩
  ·have u:j<len:=by have:=(List.getElem?_eq_some_iff.1 Y).1;simpa using this
   rw[List.getElem?_map,List.getElem?_range u] at Y;obtain rfl:F j=x:=by simpa using Y
   obtain rfl:=ks (by omega);rw[hF j u];have hq:=(key j u).choose_spec;generalize (key j u).choose=X at hq ⊢;obtain⟨q1,q2,_⟩:=hq;have q3:∀i v,X[i]?=some v->W.cell? ⟨g,o+j*s+i,none⟩=some v:=λi v hv=>by
    have K:i<s:=by have:=(List.getElem?_eq_some_iff.1 hv).1;omega
    have:=q2 i K;rw[Addr.add_mid,Addr.add_mid,hv] at this;exact this
   exact⟨g,o,rfl,World.block_lt_of_cell? W _ (q3 0 _ (List.getElem?_eq_getElem (by omega))),q1,q3⟩
  ·obtain⟨j,u,rfl⟩:=List.mem_map.1 T;have u:=List.mem_range.1 u;rw[hF j u];exact (key j u).choose_spec.2.2
theorem q9c {m:Nat}{c:Value}{y:DataW H × List MemPlace}(h:DataW.trod enc Tryz.prog W 0 (λ_=>true) true m 3 [c]=some y):∃z,c=.int .i64 z/\i64 z:=by
 obtain⟨z,e,_,f⟩:=DataW.trod_int Tryz.underlying3 h;exact⟨z,by simpa using e,bounds_i64 f⟩
theorem qmv {α:Type}{e:List (List Value)}{Q:α->Prop}{f:α->List Value}(h:∀r∈e,∃x,r=f x/\Q x):∃u:List α,e=u.map f/\∀x∈u,Q x:=by
 induction e with
 |nil=>exact⟨[],rfl,λx A=>by cases A⟩
 |cons r l ih=>
  obtain⟨x,A,E⟩:=h r (List.mem_cons_self ..);obtain⟨u,h1,h2⟩:=ih λr F=>h r (List.mem_cons_of_mem _ F)
  exact⟨x::u,by rw[List.map_cons,<-A,<-h1],λy B=>by
   rcases List.mem_cons.1 B with rfl|B
   ·exact E
   ·exact h2 y B⟩
theorem qmw {fuel:Nat}{v0 f u:Value}{y:DataW H × List MemPlace}(J:DataW.trod enc Tryz.prog W 0 (λ_=>true) true fuel 30 [v0,f,u]=some y):∃k:Kd,[v0,f,u]=[.int .i64 k.obj,.int .i64 k.kind,.int .i64 k.off]/\i64 k.off:=by
 obtain⟨A,m,_,_,M,B,e⟩:=DataW.trod_struct Tryz.underlying30 J;have K:Tryz.prog.cellsOf 3=1:=by kernel_rfl
 have E:DataW.trod enc Tryz.prog W 0 (λ_=>true) true m 3 (List.take (Tryz.prog.cellsOf 3) (List.drop 0 [v0,f,u]))=A[0]?:=e 0 _ rfl;have F:DataW.trod enc Tryz.prog W 0 (λ_=>true) true m 3 (List.take (Tryz.prog.cellsOf 3) (List.drop 1 [v0,f,u]))=A[1]?:=e 1 _ rfl;have G:DataW.trod enc Tryz.prog W 0 (λ_=>true) true m 3 (List.take (Tryz.prog.cellsOf 3) (List.drop 2 [v0,f,u]))=A[2]?:=e 2 _ rfl;have O:A.length=3:=B;rw[K,List.getElem?_eq_getElem (by omega)] at E F G;obtain⟨a,rfl,_⟩:=q9c (by simpa using E);obtain⟨b,rfl,_⟩:=q9c (by simpa using F);obtain⟨c,rfl,I⟩:=q9c (by simpa using G);exact⟨⟨a,b,c⟩,rfl,I⟩
theorem qr4 {fuel:Nat}{v:Value}{y:DataW H × List MemPlace}(u:DataW.trod enc Tryz.prog W 0 (λ_=>true) true fuel 31 [v]=some y)(G:∀n∈y.1.weights Tryz.prog 31,n<=reachBytes):∃A n c l,v=.slice A n c/\Sl W A n c l/\n<=140737488355328:=by
 obtain⟨A,n,c,l,rfl,F⟩:=qca Gy Tryz.underlying5 u;refine⟨A,n,c,l,rfl,F,?_⟩;rcases Deep.open_slice Gy.sl u with⟨e,_⟩|⟨a,len,cap,m,f,D,Pl,e,_,K,hm,E,I,J⟩
 ·injection e with e;injection e with _ h2;omega
 ·injection e with e;injection e with _ h2;have B:Tryz.prog.bytesOf 5=1:=by kernel_rfl
  have:=G ((((List.range len).map D).length+((List.range (m-len)).map λj=>D (len+j)).length)*Tryz.prog.bytesOf 5) (by rw[I];simp[DataW.weights,Gy.sl]);rw[B,List.length_map,List.length_range,List.length_map,List.length_range] at this;have M:reachBytes=140737488351232:=rfl;omega
theorem qmx {α:Type}:∀{l:List α},l.length=5->∃a b c d e,l=[a,b,c,d,e]
 |[a,b,c,d,e],_=>⟨a,b,c,d,e,rfl⟩
theorem qr5 {fuel:Nat}{B:List Value}{y:DataW H × List MemPlace}(Z:DataW.trod enc Tryz.prog W 0 (λ_=>true) true fuel 33 B=some y)(hw:∀n∈y.1.weights Tryz.prog 33,n<=reachBytes):∃o:Ai,B=o.vs/\o.here W:=by
 obtain⟨u,m,_,hy,hl,G,e⟩:=DataW.trod_struct Tryz.underlying33 Z;have F:B.length=5:=by rw[hl];kernel_rfl
 obtain⟨v0,I,J,v3,v4,rfl⟩:=qmx F;have k1:Tryz.prog.cellsOf 3=1:=by kernel_rfl
 have k2:Tryz.prog.cellsOf 30=3:=by kernel_rfl
 have k3:Tryz.prog.cellsOf 31=1:=by kernel_rfl
 have K:DataW.trod enc Tryz.prog W 0 (λ_=>true) true m 3 (List.take (Tryz.prog.cellsOf 3) (List.drop 0 [v0,I,J,v3,v4]))=u[0]?:=e 0 _ rfl;have M:DataW.trod enc Tryz.prog W 0 (λ_=>true) true m 30 (List.take (Tryz.prog.cellsOf 30) (List.drop 1 [v0,I,J,v3,v4]))=u[1]?:=e 1 _ rfl;have O:DataW.trod enc Tryz.prog W 0 (λ_=>true) true m 31 (List.take (Tryz.prog.cellsOf 31) (List.drop 4 [v0,I,J,v3,v4]))=u[2]?:=e 2 _ rfl;have hx:u.length=3:=G;rw[k1,List.getElem?_eq_getElem (by omega)] at K;rw[k2,List.getElem?_eq_getElem (by omega)] at M;rw[k3,List.getElem?_eq_getElem (by omega)] at O;obtain⟨z,rfl,hz⟩:=q9c (by simpa using K);obtain⟨k,f,hk⟩:=qmw (by simpa using M);have E:Tryz.prog.underlying 33=_:=Tryz.underlying33;obtain⟨A,n,c,l,rfl,hs,hn⟩:=qr4 (by simpa using O) λn hn=>hw n (by
  rw[hy];simp only[DataW.weights,E];exact DataW.weights_mem_each (j:=2) rfl (by rw[List.getElem?_map,List.getElem?_eq_getElem (by omega)];rfl) n hn)
 injection f with T f;injection f with X f;injection f with Y _;subst T X Y;exact⟨⟨z,k,A,n,c,l⟩,rfl,⟨hz,hk,hs,hn⟩⟩
theorem qmy {v:Value}{d:DataW H}{ps:List MemPlace}(I:∃a len cap,v=.slice a len cap)(h:DataW.Trod enc Tryz.prog W 0 (λ_=>true) true 22 v d ps)(J:∀n∈d.weights Tryz.prog 22,n<=reachBytes):∃A n c os,v=.slice A n c/\Nv W A n c os:=by
 obtain⟨a,len,cap,rfl⟩:=I;obtain⟨fuel,B⟩:=h;obtain⟨A,n,c,M,e,G,F⟩:=qr3 (s:=5) (by omega) Tryz.underlying22 (by kernel_rfl) B;obtain⟨os,rfl,E⟩:=qmv (f:=Ai.vs) (Q:=λo=>o.here W) λr hm=>by
  obtain⟨f,y,K,hn⟩:=F r hm;exact qr5 K λn u=>J n (hn n u)
 exact⟨A,n,c,os,e,G,E⟩
end
end
theorem Qee:∀n,Qdj (List.replicate n false)=n
 |0=>rfl
 |n+1=>by
  have:=Qee n;unfold Qdj at this ⊢;rw[List.replicate_succ,List.countP_cons,this];rfl
theorem Qfz (n:Nat):Qdw (List.replicate n false)=λ_=>false:=by
 funext b
 unfold Qdw;rw[List.getD_eq_getElem?_getD];by_cases h:b<n
 ·rw[List.getElem?_replicate_of_lt h];rfl
 ·rw[List.getElem?_eq_none (by simp;omega)];rfl
theorem Qfe {l:List Int}(h:0<l.length):∃r x,l=r++[x]/\r.length=l.length-1/\l.take (l.length-1)=r/\l[l.length-1]?=some x:=by
 refine⟨l.take (l.length-1),l[l.length-1],?_,by simp,rfl,List.getElem?_eq_getElem (by omega)⟩;have:=List.take_append_drop (l.length-1) l;rw[List.drop_eq_getElem_cons (by omega),show l.length-1+1=l.length by omega,List.drop_length] at this;exact this.symm
theorem Qfn {Q Q':World->Prop}{w:World}{base n c:Nat}{A:Option Addr}(h:Dy Q w base A n c []):Dy Q' w base A n c []:=by
 obtain⟨e,h1,h2,_⟩:=h;exact⟨e,h1,h2,λj r x _ f=>by simp at f⟩
def Qfm (w:World)(R:Int->Nd × Int)(zs:List Int)(e:Ending)(w':World):Prop:=
 ∃O on f Ns seen,e=.returned (.slice O on f)/\on<=2048/\Anl (λv=>Below w'.1.size w' v) w' O on f Ns/\Qcl R zs Ns seen []/\Below w.1.size w w'
theorem Qdy {w:World}{p:Nat}{R:Int->Nd × Int}(H:Src w p R)(ht:Tab w)(B:Option Addr)(m k:Nat)(zs:List Int)(hZ:Rt w B m k zs)(hm:m<=1000) :
  Calls Tryz.prog 13 #[.pointer (some ⟨p,0,none⟩),.slice B m k] w (Qfm w R zs):=by
 have hG:=ht.1;have bo:Below w.1.size w (w.alloc (.cells #[] 79)):=Qm;have o1:=Qe9 (λv=>Turn (λ_=>True) (w.alloc (.cells #[] 79)) v) w;go_enter Tryz.func13,Tryz.ntmps13
 go_wp2_with (first
  |(at_make;refine Qel rfl _ _ rfl 2048 rfl rfl (by omega) ?_;intro w2 s2 b2
    have z2:=b2.size;have B2:=bo.trans (b2.mono bo.size);have o2:=o1.below b2;have l2:=hZ.below B2;have ol:=qor w2 3 1;have d3:Below w2.1.size w2 (w2.alloc (.cells #[] 3)):=Qm)
  |(at_builtin;refine Qdg rfl _ _ rfl w2.1.size _ 0 0 [] rfl ol B m k zs rfl (Jf.below l2 d3) (by omega) (by simp) ?_;intro A3 c3 w3 a1 b3)
  |fail)
 rw[List.nil_append,Nat.zero_add] at a1;have e5:(w.alloc (.cells #[] 79)).1.size=w.1.size+1:=by simp
 rw[e5] at s2 z2;have a7:Below w2.1.size w2 w3:=d3.trans (b3.mono (by simp));have z3:=a7.size;have e3:=s2.lt;have N3:Qdl w.1.size (w.1.size+1) w3 A3 m c3 zs (some ⟨w.1.size,0,none⟩) 0 0 [] (List.replicate 2048 false) (λ_=>False):=by
  refine⟨a1.less (by omega),λk hk=>?_,Qfn (o2.below a7),λk hk=>⟨?_,λh=>h⟩,s2.keep (a7.block _ e3),⟨by omega,λh=>h⟩,λk h=>h.elim,by omega⟩
  ·have h1:=(a1.Qa k hk).1;refine⟨by omega,λh=>h,λh=>?_⟩;have:w.1.size=k:=Option.some.inj h;omega
  ·have:w.1.size=k:=Option.some.inj hk;omega
 have I3:Qcl R zs [] (Qdw (List.replicate 2048 false)) zs:=by rw[Qfz];exact Qe3 R zs
 have g6:=Qee 2048;have i9:zs.length=m:=N3.len;have B3:Below w.1.size w w3:=B2.trans (a7.mono (by omega));have t3:Tab w3:=ht.below B3 hG;generalize List.replicate 2048 false=e9 at N3 I3 g6;clear o1 o2 l2 ol d3 b3 a1 b2 s2 z2 B2 a7 z3 e3 bo e5 hZ;go_loopw [5,7,8,9,10,11] (λov tv _ _ _ _ wr=>∃(A O:Option Addr) (n c on oc:Nat) (X:List Int) (Ns:List (Int × Nd)) (Y:List Bool) (Dt:Nat->Prop),tv=.slice A n c/\ov=.slice O on oc/\Qdl w.1.size (w.1.size+1) wr A n c X O on oc Ns Y Dt/\Qcl R zs Ns (Qdw Y) X/\n+13*Qdj Y<=30000/\on+Qdj Y<=2048/\Below w.1.size w wr/\Tab wr) (λ_ tv _ _ _ _ wr=>lenV tv+13*Qet wr (w.1.size+1))
 case atStart=>exact⟨A3,_,m,c3,0,0,zs,[],e9,_,rfl,rfl,N3,I3,by omega,by omega,B3,t3⟩
 case round=>
  obtain⟨A,O,n,c,on,oc,X,Ns,Y,Dt,rfl,rfl,N,I,i6,d4,Br,tr⟩:=hrel;have y:=Qdi N.Qdh;by_cases hn:0<n
  ·have b0:=N.len;obtain⟨r,x,g5,k6,a6,a8⟩:=Qfe (l:=X) (by omega);obtain⟨g,o,hA,hg,g9,F⟩:=N.Qf4.2.2.2 (n-1) [.int .i64 x] (by rw[List.getElem?_map,<-b0,a8];rfl);subst hA;have G:=F 0 _ rfl;rw[Nat.mul_one,Nat.add_zero] at G;have f3:(0:Int)<(n:Int):=by omega
   have k8:IntKind.i64.wrap ((n:Int)-1)=((n-1:Nat):Int):=by rw[show (n:Int)-1=((n-1:Nat):Int) by omega];exact IntWalk.i64_in _ (by omega)
   have i1:=N.Qf4.cap;have g2:=N.Qf4.max;unfold maxLen at g2;have j9:(0:Int)<=((n-1:Nat):Int):=by omega
   have k0:((n-1:Nat):Int)<(n:Int):=by omega
   have k1:((n-1:Nat):Int)<=(c:Int):=by omega
   have k7:r.length=n-1:=by omega
   have ir:Rt wr (some ⟨g,o,none⟩) (n-1) c r:=by
    have:=Jf.take N.Qf4 (k:=n-1) (by omega);rw[<-List.map_take,<-b0,a6] at this;rw[<-b0];exact this
   have bl:Below wr.1.size wr (wr.alloc (.cells #[] 3)):=Qm;have ol:=qor wr 3 1;have k2:n-1<=30000:=by omega
   rw[g5] at I;replace y:=Lib.hid y;clear F g9 a8 a6;by_cases g7:x<=0
   ·have I4:=Qd0 I (.inl g7);go_wp2_with (first
     |(at_builtin;refine Qdg rfl _ _ rfl wr.1.size _ 0 0 [] rfl ol (some ⟨g,o,none⟩) (n-1) c r rfl (Jf.below ir bl) (by omega) (by simp) ?_;intro A4 c4 w4 f b4
       rw[List.nil_append,Nat.zero_add] at f;have u:Below wr.1.size wr w4:=bl.trans (b4.mono (by simp));have Z:=N.newRow u f;have B4:=Br.trans (u.mono Br.size);have t4:=tr.below u tr.1)
     |fail)
    exact⟨⟨A4,O,n-1,c4,on,oc,r,Ns,Y,Dt,rfl,rfl,Z,I4,by omega,d4,B4,t4⟩,by rw[Qdi Z.Qdh,y.out];show n-1+13*_<n+13*_;omega⟩
   by_cases g8:2048<=x
   ·have I4:=Qd0 I (.inr (.inl g8));go_wp2_with (first
     |(at_builtin;refine Qdg rfl _ _ rfl wr.1.size _ 0 0 [] rfl ol (some ⟨g,o,none⟩) (n-1) c r rfl (Jf.below ir bl) (by omega) (by simp) ?_;intro A4 c4 w4 f b4
       rw[List.nil_append,Nat.zero_add] at f;have u:Below wr.1.size wr w4:=bl.trans (b4.mono (by simp));have Z:=N.newRow u f;have B4:=Br.trans (u.mono Br.size);have t4:=tr.below u tr.1)
     |fail)
    exact⟨⟨A4,O,n-1,c4,on,oc,r,Ns,Y,Dt,rfl,rfl,Z,I4,by omega,d4,B4,t4⟩,by rw[Qdi Z.Qdh,y.out];show n-1+13*_<n+13*_;omega⟩
   obtain⟨q,rfl⟩:=Int.eq_ofNat_of_zero_le (show 0<=x by omega);have hq:q<2048:=by omega
   have k4:(0:Int)<=(q:Int):=by omega
   have k5:(q:Int)<2048:=by omega
   cases b1:Qdw Y q with
   |true=>
    have I4:=Qd0 I (.inr (.inr (by rw[Int.toNat_natCast];exact b1)));go_wp2_with (first
     |(at_builtin;refine Qdg rfl _ _ rfl wr.1.size _ 0 0 [] rfl ol (some ⟨g,o,none⟩) (n-1) c r rfl (Jf.below ir bl) (by omega) (by simp) ?_;intro A4 c4 w4 f b4
       rw[List.nil_append,Nat.zero_add] at f;have u:Below wr.1.size wr w4:=bl.trans (b4.mono (by simp));have Z:=N.newRow u f;have B4:=Br.trans (u.mono Br.size);have t4:=tr.below u tr.1;have b8:=(Z.Qdh.at_ hq).1;rw[show Y.getD q false=true from b1] at b8)
     |fail)
    exact⟨⟨A4,O,n-1,c4,on,oc,r,Ns,Y,Dt,rfl,rfl,Z,I4,by omega,d4,B4,t4⟩,by rw[Qdi Z.Qdh,y.out];show n-1+13*_<n+13*_;omega⟩
   |false=>
    go_wp2_with (first
     |(at_builtin;refine Qdg rfl _ _ rfl wr.1.size _ 0 0 [] rfl ol (some ⟨g,o,none⟩) (n-1) c r rfl (Jf.below ir bl) (by omega) (by simp) ?_;intro A4 c4 w4 f b4
       rw[List.nil_append,Nat.zero_add] at f;have u:Below wr.1.size wr w4:=bl.trans (b4.mono (by simp));have Z:=N.newRow u f;have B4:=Br.trans (u.mono Br.size);have t4:=tr.below u tr.1;obtain⟨b8,f2⟩:=Z.Qdh.at_ hq;rw[show Y.getD q false=false from b1] at b8)
     |fail)
    have N5:=Z.see q;have B5:Below w.1.size w (w4.setCell ⟨w.1.size+1,q,none⟩ (.bool true)):=B4.setCell (by show w.1.size<=w.1.size+1;omega) _;have t5:Tab (w4.setCell ⟨w.1.size+1,q,none⟩ (.bool true)):=ht.below B5 hG;have j0:Y.length=2048:=Z.Qdh.len;have d7:=Lib.hid (Qef (bs:=Y) (q:=q) (by omega) b1);have d5:=Lib.hid (Qf0 (bs:=Y) (q:=q) (by omega));have HN:=Lib.hid (H.node _ B5 t5 (q:Int));clear b8 f2 N Z B4 t4 Br tr u f b4 ir bl ol G;generalize w4.setCell ⟨w.1.size+1,q,none⟩ (.bool true)=w5 at N5 B5 t5 HN ⊢;obtain⟨M,E,hR⟩:∃M E,R (q:Int)=(M,E):=⟨_,_,rfl⟩;rw[hR] at HN;dsimp only at HN;have K:=H.may (q:Int);rw[hR] at K;dsimp only at K;have c8:=B5.size;go_wp2_with fail
    refine HN.out.mono ?_;rintro e w6 ⟨A6,n6,c6,B6,T,d6,rfl,k3,j8,e0,b7,b6⟩;have i0:=b6.size;by_cases hE:E=0
    ·subst hE;replace K:=K rfl;have i2:=Qfh K;have f4:M.kids.length=T:=by have:=Qs.len b7 (by omega);rwa [List.length_map] at this
     have e4:on<=100000:=by omega
     obtain⟨J,b9⟩:∃v,w6.alloc (.cells #[.int .i64 M.lvl,.slice A6 n6 c6,.slice B6 T d6] 75)=v:=⟨_,rfl⟩;have ba:Below w6.1.size w6 J:=by rw[<-b9];exact Qm
     have e8:J.1.size=w6.1.size+1:=by rw[<-b9];simp
     have R6:RB J w6.1.size [.int .i64 M.lvl,.slice A6 n6 c6,.slice B6 T d6]:=by rw[<-b9];exact⟨_,heap_alloc_new w6 _⟩
     have d1:Below w5.1.size w5 J:=b6.trans (ba.mono i0);have N6:=N5.node d1;have D6:∀v,Dq (λk=>Dt k\/(w5.1.size<=k/\k<J.1.size)) J v->Turn (λk=>k<w5.1.size) J v:=λv hv=>qpr hv λk h1 h2=>.inr ⟨h1,h2⟩
     have F6:∀v,Dq (λk=>Dt k\/(w5.1.size<=k/\k<J.1.size)) J v->RB v w6.1.size [.int .i64 M.lvl,.slice A6 n6 c6,.slice B6 T d6]/\J4 v w5.1.size A6 n6 c6 M.items/\Qs v w5.1.size 81 4 B6 T d6 (M.kids.map Ql.vs):=λv hv=>
      ⟨R6.turned (D6 v hv) (by omega),(e0.below ba).low (D6 v hv) λk h=>h,(b7.below ba).turned (D6 v hv) λk hk h=>by have:=(b7.Qa k hk).1;have:k<w5.1.size:=h;omega⟩
     generalize i5:(λk=>Dt k\/(w5.1.size<=k/\k<J.1.size))=a2 at N6 D6 F6;have bq:Below J.1.size J (J.alloc (.cells #[.int .i64 (q:Int),.int .i64 M.lvl,.slice A6 n6 c6,.slice B6 T d6] 79)):=Qm;have l7:=Qf5 J (q:Int) M.lvl A6 n6 c6 B6 T d6;rw[e8] at l7;have e2:Rl (Dq a2 (J.alloc (.cells #[.int .i64 (q:Int),.int .i64 M.lvl,.slice A6 n6 c6,.slice B6 T d6] 79))) (Qby q M.lvl A6 n6 c6 B6 T d6) ((q:Int),M):=
      ⟨A6,n6,c6,B6,T,d6,rfl,by omega,by omega,λv hv=>⟨(F6 v (Qd9 bq hv)).2.1.Zq,(F6 v (Qd9 bq hv)).2.2.Vs (by omega)⟩⟩
     have N7:=N6.below bq;have z7:w.1.size<=(J.alloc (.cells #[.int .i64 (q:Int),.int .i64 M.lvl,.slice A6 n6 c6,.slice B6 T d6] 79)).1.size:=N7.bsz;have y0:=R6.cell 0 rfl;have y1:=R6.cell 1 rfl;have y2:=R6.cell 2 rfl;go_wp2_with (first
      |(at_builtin;refine Qek rfl _ _ rfl w.1.size O on oc Ns rfl N7.out_ _ 1 ((q:Int),M) _ rfl l7 e2 e4 z7 ?_;intro O8 e6 w8 d0 T8 e1
        have N8:=N7.found d0 T8 e1;have Q8:Dq a2 J w8:=(Qv bq).then (T8.mono λk hk hd=>(N7.outA k hk).2 hd);clear y0 y1 y2)
      |fail)
     have B8:Below w.1.size w w8:=((B5.trans (d1.mono c8)).trans (bq.mono (by omega))).trans (T8.below (λk hk=>(N7.out_.Qa k hk).1) z7);have I8:=Qfi (q:=q) I b1 hR;rw[<-d5.out] at I8;have b5:=Lib.hid d7.out;have i4:=e8;clear T8 l7 e2 N7 bq z7 N6 d1 R6 N5 e0 b7 b6 b9 ba HN B5 t5 I d7 d5 D6 d0 e1;generalize Ns++[((q:Int),M)]=d8 at N8 I8;generalize Y.set q true=d9 at N8 I8 b5;go_loopw [7,11] (λtv iv wx=>∃(A:Option Addr) (n2 c2 i:Nat),i<=T/\tv=.slice A n2 c2/\iv=.int .i64 (i:Int)/\Qdl w.1.size (w.1.size+1) wx A n2 c2 (r++(M.kids.take i).map (·.a)) O8 (on+1) e6 d8 d9 a2/\Dq a2 J wx/\Below w.1.size w wx) (λ_ iv _=>T-(intOf iv).toNat)
     case atStart=>exact⟨A4,n-1,c4,0,Nat.zero_le _,rfl,rfl,by rw[List.take_zero];simpa using N8,Q8,B8⟩
     case round=>
      obtain⟨A9,n9,c9,i,hi,rfl,rfl,N9,Q9,B9⟩:=hrel;obtain⟨R9,_,K9⟩:=F6 _ Q9;have y2:=R9.cell 2 rfl;by_cases j7:i<T
      ·have f3:(i:Int)<(T:Int):=by omega
       obtain⟨g1,o1,f1,i7,_,F⟩:=(K9.Vs (by omega)).2.2.2 i (M.kids[i]'(by omega)).vs (by rw[List.getElem?_map,List.getElem?_eq_getElem (by omega)];rfl);have G:=F 3 _ rfl;subst f1;obtain⟨x9,c7⟩:∃x,M.kids[i]'(by omega)=x:=⟨_,rfl⟩;rw[c7] at G;replace c7:M.kids[i]?=some x9:=by rw[List.getElem?_eq_getElem (by omega),c7]
       have g3:n9<=900000:=by have:=N9.len;simp at this;omega
       have i8:(0:Int)<=(i:Int):=by omega
       have l9:=qjf wr x9.a;have bl:Below wr.1.size wr (wr.alloc (.cells #[.int .i64 x9.a] 3)):=Qm;have L9:=N9.below bl;have z9:=L9.bsz;have k9:IntKind.i64.wrap ((i:Int)+1)=((i+1:Nat):Int):=IntWalk.i64_in _ (by omega);go_wp2_with (first
        |(at_builtin;refine Qeg rfl _ _ rfl w.1.size A9 n9 c9 _ rfl L9.row _ 1 x9.a rfl l9 g3 z9 ?_;intro A1 c1 w1 e7 T1 f0
          have N1:=L9.push e7 T1 f0;have Q1:=Q9.then ((Qv (S:=λk=>¬a2 k) bl).then (T1.mono λk hk hd=>(L9.rowA k hk).2.1 hd));have B1:=(B9.trans (bl.mono N9.bsz)).trans (T1.below (λk hk=>(L9.row.Qa k hk).1) z9))
        |fail)
       have a6:r++(M.kids.take (i+1)).map (·.a)=(r++(M.kids.take i).map (·.a))++[x9.a]:=by rw[List.take_add_one,c7];simp
       exact⟨⟨A1,n9+1,c1,i+1,by omega,rfl,by go_num,by rw[a6];exact N1,Q1,B1⟩,by simp[intOf];omega⟩
      ·obtain rfl:i=T:=by omega
       have a6:M.kids.take i=M.kids:=List.take_of_length_le (by omega);rw[a6] at N9;have g0:=N9.len;rw[List.length_append,List.length_map,f4] at g0;have i3:=b5.out;go_wp2_with fail
       exact⟨⟨A9,O8,n9,c9,on+1,e6,_,d8,d9,a2,rfl,rfl,N9,I8,by omega,by omega,B9,ht.below B9 hG⟩,by rw[Qdi N9.Qdh,y.out];show n9+13*_<n+13*_;omega⟩
    ·have I6:=Qfs (q:=q) I (by rw[hR];exact hE);rw[<-d5.out] at I6;go_wp2_with fail
     have d2:Below w5.1.size w5 (w6.alloc (.cells #[.int .i64 M.lvl,.slice A6 n6 c6,.slice B6 T d6] 75)):=b6.alloc b6.size _;have N6:=N5.below d2;have b5:=d7.out;exact⟨⟨A4,O,n-1,c4,on,oc,r,Ns,_,Dt,rfl,rfl,N6,I6,by omega,by omega,B5.trans (d2.mono c8),t5.below d2 t5.1⟩,by rw[Qdi N6.Qdh,y.out];show n-1+13*_<n+13*_;omega⟩
  ·obtain rfl:n=0:=by omega
   have f9:X=[]:=List.eq_nil_of_length_eq_zero N.len;subst f9;have g4:on<=2048:=by omega
   go_wp2_with fail
   go_ret;refine⟨O,on,oc,Ns,Qdw Y,rfl,g4,(N.out_.mono λv hv=>?_).anl,I,Br⟩;exact (Qv (S:=λk=>¬Dt k) hv)
def Qeo (R:Int->Nd × Int)(Ns:List (Int × Nd)):Prop:=∀a,(R a).2=0->Gs Ns a=some (R a).1/\(R a).1.may=true/\∀x∈(R a).1.kids,(R x.a).1.enough
section
variable {Q:World->Prop}{wl:World}{R:Int->Nd × Int}
theorem Qec (E:∀w',Below wl.1.size wl w'->Q w')(A:Option Addr)(n c:Nat)(Ns:List (Int × Nd))(B:Anl Q wl A n c Ns)(hn:n<=100000)(K:Qeo R Ns):∀(l:Nat) (a:Int) (its:List Qc) (top:Bool),Qp R l a its->Qd its->its.length<=1000->(top=false->(R a).1.enough)->∀w',Below wl.1.size wl w'->
  Calls Tryz.prog 37 #[.slice A n c,.int .i64 a,.int .i64 (l:Int),.bool top] w' (Qdn wl.1.size its w')
 |0,a,its,top,hT,hr,hlen,hen,w',hw=>by
  obtain⟨h1,h2,J⟩:=K a (by rw[hT.1]);rw[hT.1] at h1 h2 J hen;have G:∀j,j<([]:List Ql).length->∀w',Below wl.1.size wl w'->Calls Tryz.prog 37 #[.slice A n c,.int .i64 (Qg ([]:List Ql) j).a,.int .i64 ((0:Int)-1),.bool false] w' (Qdn wl.1.size (([]:List (List Qc)).getD j []) w'):=λj f=>absurd f (Nat.not_lt_zero _)
  cases top with
  |true=>exact Qed E A n c Ns B hn a ⟨0,its,[]⟩ h1 h2 its hr hlen [] rfl (by simp) (λj f=>absurd f (Nat.not_lt_zero _)) G w' hw
  |false=>exact Qe6 E A n c Ns B hn a ⟨0,its,[]⟩ h1 h2 (hen rfl) rfl its hr hlen [] rfl (by simp) (λj f=>absurd f (Nat.not_lt_zero _)) G w' hw
 |l+1,a,its,top,hT,hr,hlen,hen,w',hw=>by
  obtain⟨kids,parts,e,k1,O,Z,T⟩:=hT;obtain⟨h1,h2,J⟩:=K a (by rw[e]);rw[e] at h1 h2 J hen;subst Z;have u:∀j,j<kids.length->Qd (parts.getD j [])/\(parts.getD j []).length<=1000:=λj f=>by
   refine⟨q3j hr j,?_⟩;have F:j<parts.length:=by omega
   have X:parts.getD j []=parts[j]:=by rw[List.getD_eq_getElem?_getD,List.getElem?_eq_getElem F];rfl
   have e2:parts.flatten.length=((parts.take j).flatten).length+(parts[j].length+((parts.drop (j+1)).flatten).length):=by
    conv=>lhs;rw[<-List.take_append_drop j parts,List.drop_eq_getElem_cons F]
    rw[List.flatten_append,List.flatten_cons,List.length_append,List.length_append]
   rw[X];omega
  have G:∀j,j<kids.length->∀w',Below wl.1.size wl w'->Calls Tryz.prog 37 #[.slice A n c,.int .i64 (Qg kids j).a,.int .i64 (((l+1:Nat):Int)-1),.bool false] w' (Qdn wl.1.size (parts.getD j []) w'):=λj f w' M=>by
   have Y:Qg kids j∈kids:=List.mem_of_getElem? (Rf f);have:=Qec E A n c Ns B hn K l (Qg kids j).a (parts.getD j []) false (T j f).1 (u j f).1 (u j f).2 (λ_=>J _ Y) w' M;rwa [show (l:Int)=((l+1:Nat):Int)-1 by omega] at this
  have I:∀j,j<kids.length->∃y r,parts.getD j []=y::r/\(Qg kids j).k=y.k:=λj f=>(T j f).2
  cases top with
  |true=>exact Qed E A n c Ns B hn a ⟨((l+1:Nat):Int),[],kids⟩ h1 h2 parts.flatten hr hlen parts O (by simp) I G w' hw
  |false=>exact Qer E A n c Ns B hn a ⟨((l+1:Nat):Int),[],kids⟩ h1 h2 (hen rfl) (by show ((l+1:Nat):Int)≠0;omega) parts.flatten hr hlen parts O (by simp) I G w' hw
theorem Qdk (hQ:∀w',Below wl.1.size wl w'->Q w')(A:Option Addr)(n c:Nat)(Ns:List (Int × Nd))(X:Anl Q wl A n c Ns)(hn:n<=100000)(Y:Qeo R Ns)(root:Int)(its:List Qc)(y:Zb R root its)(M:Qd its)(E:its.length<=1000)(w:World)(O:Below wl.1.size wl w) :
  Calls Tryz.prog 14 #[.slice A n c,.int .i64 root] w (Qdn wl.1.size its w):=by
 rcases y with⟨rfl,rfl⟩|⟨l,hl,y,h1,h2⟩
 ·go_enter Tryz.func14,Tryz.ntmps14
  go_wp2;go_ret2;exact⟨none,0,0,rfl,⟨[],q67 w 4,rfl,λj r x M=>by simp at M⟩,Below.refl _ _⟩
 ·obtain⟨Z,k2,_⟩:=Y root (Fq y).2.2;have F:=(Fq y).2.1;have J:=Qd2 (Q:=Q) A n c Ns root w (X.below O) hn;rw[Z] at J;have Ho:=Lib.hid (λ(u:World) (hu:Below wl.1.size wl u)=>Qec hQ A n c Ns X hn Y l root its true y M E (λh=>by cases h) u hu);have h0:¬root=0:=by omega
  have g0:(root==0)=false:=by simp;omega
  replace J:=Lib.hid J;have G:=Lib.hid F;clear y F Z k2 h0 h1;go_enter Tryz.func14,Tryz.ntmps14
  go_wp2_with fail
  refine J.out.mono ?_;rintro e I ⟨A1,n1,c1,B1,m1,d1,rfl,a2,a1,K,T⟩;simp only[Option.getD_some,Option.isSome_some];rw[G.out];clear K;go_wp2_with (first
   |(refine Gt rfl (.tmp 6) _ rfl I.1.size rfl (l:Int) A1 n1 c1 B1 m1 d1 rfl (NB.new I 0 none 0 0 none 0 0 75) ?_;intro w3 R3 T3;have b3:Below I.1.size I w3:=(Qm).trans (T3.below (λk hk=>by have:k=I.1.size:=hk;omega) (by simp));have c0:=R3.c0)
   |fail)
  have f:=T.trans (b3.mono T.size);refine (Ho.out w3 (O.trans (f.mono O.size))).mono ?_;rintro e w4 ⟨B,m,d,rfl,hx,b4⟩;go_wp2_with fail
  go_ret2;exact⟨B,m,d,rfl,hx,f.trans (b4.mono f.size)⟩
end
theorem Qd4 {D:DM}{y:Sp}{u:Ct}{H:List Int}{P:Pl}(K:Keep D y u [] H P){e:List Int}{Ns:List (Int × Nd)}{seen:Nat->Bool}(A:Qcl (P.store D) e Ns seen [])(B:∀a:Nat,0<a->a<P.C.n->(a:Int)∈H->(a:Int)∈e):Qeo (P.store D) Ns:=by
 intro a f;have h0:P.C.get a≠0:=λh=>by rw[q0z h] at f;cases f
 obtain⟨b,rfl,_⟩:=Ae h0;have L:=K.told h0 (by simp);rw[Nh] at L;rw[Qdu K A B b,if_neg h0];exact⟨rfl,L.may,λx E=>(L.kids x E).2.2.2⟩
theorem Qds {root:Int}(a:Nat)(e:0<a):([root]:List Int).count (a:Int)=(Jr root).count (a:Int):=by
 unfold Jr;by_cases h:root=0
 ·subst h;rw[if_pos rfl];exact List.count_eq_zero_of_not_mem λh=>by have:=List.mem_singleton.1 h;omega
 ·rw[if_neg h]
theorem Qd3 {zs H:List Int}{n:Nat}(f:∀a:Nat,0<a->a<n->zs.count (a:Int)=H.count (a:Int)):∀a:Nat,0<a->a<n->(a:Int)∈H->(a:Int)∈zs:=λb h1 h2 e=>List.count_pos_iff.1 (by rw[f b h1 h2];exact List.count_pos_iff.2 e)
section
variable {b:Nat}{w w':World}{d p:Nat}{U:Nat->Prop}{D:DM}{P:Pl}{H:List Int}{m:Nat}{g:Int}{zs:List Int}{Ns:List (Int × Nd)}{seen:Nat->Bool}
end
