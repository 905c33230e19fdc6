/- The laws of edit: a new pool, the document's example -/
import Derived.Test.YtnnbaihfboacoaaGreatDoorEu42
import Derived.Test.YtnnbaihfboacoaaGreatDoorHcT
namespace Go.Proofs.YtnnbaihfboacoaaGreatDoor
open Go Go.RowKit Go.Proofs
section
variable {b:Nat}{w w':World}{d p:Nat}{U:Nat->Prop}{D:DM}{P:Pl}{H H0:List Int}{m:Nat}{g:Int}{root:Int}{its:List Qc}
theorem Ed.room (E:Ed b w d p U D P H m g){L:List (Nat × Int × List Qc)}(hL:Nw (P.store D) L)(hH:∀a∈H,∃x∈L,x.2.1=a):P.C.n<=P.C.free+(P.C.first+((L.map λx=>x.2.2.length).sum+P.C.kept)):=by
 obtain⟨f,e,K⟩:=E.keep;rw[<-Nh] at hL;have h1:=K.used hL hH;have h2:=qau P.C;omega
end
section
variable {b:Nat}{w w':World}{d p:Nat}{U:Nat->Prop}{D:DM}{P P':Pl}{H H0:List Int}{m:Nat}{g:Int}{root one r:Int}{its its1:List Qc}
theorem Ed.Qau (E:Ed b w d p U D P (Jr root++Jr one) m g)(hT:Zb (P.store D) root its)(hT1:Zb (P.store D) one its1):P.C.n<=P.C.free+(P.C.first+(its.length+its1.length+P.C.kept)):=by
 have key:∀{a:Int} {l:List Qc},Zb (P.store D) a l->∃L,Nw (P.store D) L/\(∀c∈Jr a,∃x∈L,x.2.1=c)/\(L.map λx=>x.2.2.length).sum=l.length:=by
  intro a l h;rcases h with⟨rfl,rfl⟩|⟨M,_,h,h1,_⟩
  ·exact⟨[],λx f=>by (cases f),λc u=>by (cases u),rfl⟩
  ·refine⟨[(M,a,l)],λx f=>by cases List.mem_singleton.1 f;exact h,λc u=>?_,by simp⟩;have e:Jr a=[a]:=if_neg (by omega);rw[e] at u;exact⟨_,List.mem_singleton_self _,(List.mem_singleton.1 u).symm⟩
 obtain⟨y,F,G,a3⟩:=key hT;obtain⟨B,I,J,K⟩:=key hT1;have:=E.room (L:=y++B) (λx f=>(List.mem_append.1 f).elim (F x) (I x)) λc u=>by
  rcases List.mem_append.1 u with h|h
  ·obtain⟨x,f,e⟩:=G c h;exact⟨x,List.mem_append_left _ f,e⟩
  ·obtain⟨x,f,e⟩:=J c h;exact⟨x,List.mem_append_right _ f,e⟩
 rw[List.map_append,List.sum_append,a3,K] at this;exact this
end
section
variable {b:Nat}{w w':World}{d p:Nat}{U:Nat->Prop}{D:DM}{P P':Pl}{H H0:List Int}{m:Nat}{g:Int}{root one:Int}{its its1:List Qc}
theorem Qfo {R:Int->Nd × Int}{l:Nat}{a:Int}{its:List Qc}(h:Qp R l a its):(R a).2=0:=by
 cases l with
 |zero=>rw[h.1]
 |succ l=>
  obtain⟨kids,parts,e,_⟩:=h;rw[e]
theorem Qf1 {R R':Int->Nd × Int}(e:∀a,(R a).2=0->R' a=R a){root:Int}{its:List Qc}(f:Zb R root its):Zb R' root its:=by
 rcases f with h|⟨l,h0,h1,h2⟩
 ·exact .inl h
 ·exact .inr ⟨l,h0,P9 e h1,h2⟩
theorem Ed.Qgc (E:Ed b w d p U D P (Jr root++[]) m g)(hb:1<b)(hT:Zb (P.store D) root its)(h0:root≠0) :
  Calls Tryz.prog 20 #[.pointer (some ⟨p,0,none⟩),.int .i64 root] w λe w'=>∃P',e=.returned (.int .i64 0)/\Ed b w' d p U D P' (Jr root++Jr root) m g/\Zb (P'.store D) root its/\P'.C.n=P.C.n/\P'.C.kept=P.C.kept/\Turn U w w':=by
 have J:Jr root=[root]:=if_neg h0;obtain⟨W,S,T,h,Z,Q⟩:=E.sys;obtain⟨f,R,K⟩:=E.keep;have B:P.C.get root≠0:=λY=>by
  rcases hT with⟨_,h1⟩|⟨l,_,h1,_⟩
  ·exact h0 h1
  ·have:=Qfo h1;rw[q0z Y] at this
   cases this
 obtain⟨c,rfl,hc⟩:=Ae B;have F:=K.low (by rw[J];simp) B;obtain⟨X,G,y⟩:=K.ref B (by omega) (by simp);refine (qy2 h hb E.tab (c:Int)).mono ?_;rintro e w1 ⟨rfl,h1,I,t1⟩;have u:Turn U w w1:=I.mono Q;have O:=(y 0).ext;rw[Nh,Nh] at O;refine⟨_,by rw[X],⟨⟨W,S,T,h1,Z,Q⟩,λk M=>⟨(E.low k M).1,Nat.lt_of_lt_of_le (E.low k M).2 I.size⟩,t1,⟨f,R,?_⟩,E.Ya,E.gen⟩,Qf1 O hT,(y 0).n,q4z (qu1 P _) (y 0).n,u⟩;rw[J] at G ⊢;exact G
theorem Ed.Qfl (E:Ed b w d p U D P (Jr root++Jr one) m g)(hT:Zb (P.store D) root its)(hT1:Zb (P.store D) one its1):P.C.used<=its.length+its1.length:=by
 obtain⟨_,_,K⟩:=E.keep;have key:∀{a:Int} {l:List Qc},Zb (P.store D) a l->∃L,Nw (P.store D) L/\(∀c∈Jr a,∃x∈L,x.2.1=c)/\(L.map λx=>x.2.2.length).sum=l.length:=by
  intro a l h;rcases h with⟨rfl,rfl⟩|⟨O,_,h,h1,_⟩
  ·exact⟨[],λx f=>by (cases f),λc u=>by (cases u),rfl⟩
  ·refine⟨[(O,a,l)],λx f=>by cases List.mem_singleton.1 f;exact h,λc u=>?_,by simp⟩;have e:Jr a=[a]:=if_neg (by omega);rw[e] at u;exact⟨_,List.mem_singleton_self _,(List.mem_singleton.1 u).symm⟩
 obtain⟨y,F,G,a3⟩:=key hT;obtain⟨B,I,J,M⟩:=key hT1;have:=K.used (L:=y++B) (λx f=>by rw[Nh];exact (List.mem_append.1 f).elim (F x) (I x)) λc u=>by
  rcases List.mem_append.1 u with h|h
  ·obtain⟨x,f,e⟩:=G c h;exact⟨x,List.mem_append_left _ f,e⟩
  ·obtain⟨x,f,e⟩:=J c h;exact⟨x,List.mem_append_right _ f,e⟩
 rw[List.map_append,List.sum_append,a3,M] at this;exact this
variable {U':Nat->Prop}{D':DM}{row row':List Qc}{r z:Int}{A A6:Option Addr}{n c n6 c6:Nat}
theorem Qa8.other (N:Qa8 b w w' d p U U' D D' P P' (Jr one) row row' r A n c m g z)(hT:Zb (P.store D) one its1):Zb (P'.store D') one its1:=by
 rcases hT with h1|⟨u,h0,h1,h2,f⟩
 ·exact .inl h1
 ·have e:Jr one=[one]:=if_neg (by omega);exact .inr ⟨u,h0,N.old _ _ _ (by rw[e];exact List.mem_singleton_self _) h1,h2,f⟩
theorem Qen {x y:Int}(a:Nat)(e:0<a):([x,y]:List Int).count (a:Int)=(Jr y++Jr x).count (a:Int):=by
 rw[List.count_append,<-Qds a e,<-Qds a e,show ([x,y]:List Int)=[x]++[y] from rfl,List.count_append,Nat.add_comm]
theorem Qd1 (w:World)(x y:Int):Rt (w.alloc (.cells #[.int .i64 x,.int .i64 y] 3)) (some ⟨w.1.size,0,none⟩) 2 2 [x,y]:=
 qi4 w 3 (by omega) [iv x,iv y] _ rfl (λz e=>by simp at e;rcases e with rfl|rfl<;>rfl) (by simp)
end
