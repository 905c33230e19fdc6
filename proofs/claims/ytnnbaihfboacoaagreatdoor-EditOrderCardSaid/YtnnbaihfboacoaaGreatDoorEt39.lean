/- The laws of edit: rows that stay while a pool turns; what puts and deletes in order come t -/
import Derived.Test.YtnnbaihfboacoaaGreatDoorEt34
import Derived.Test.YtnnbaihfboacoaaGreatDoorEt38
import Derived.Test.YtnnbaihfboacoaaGreatDoorHbAv1
namespace Go.Proofs.YtnnbaihfboacoaaGreatDoor
open Go Go.RowKit Go.Proofs
section
variable {U:Nat->Prop}{w w':World}{A:Option Addr}{n c:Nat}{xs:List Qc}
theorem qkr {b:Nat}(u:∀k,U k->k<b)(h:Zg (λ(V:Option Addr) (_:List UInt8)=>∀g,q01 V=some g->b<=g) w A n c xs)(y:∀g,q01 A=some g->b<=g):J8 U w A n c xs:=
 ⟨h.mono λV v B _ g f e=>by have:=B g f;have:=u g e;omega,λ_ g f e=>by have:=y g f;have:=u g e;omega⟩
end
def pl (x:Qc):Qc:=⟨x.k,Zd x.v⟩
theorem qaz {x:Qc}(h:x.k.may=true/\x.v.length<=28):Ze (pl x):=⟨h.1,by show (Zd x.v).length<=28;rw[q84];exact h.2,q8s _ _⟩
theorem qks {l:List Qc}{m:Nat}(h:Ky l m):∀x∈l.map pl,Ze x:=λx e=>by
 obtain⟨y,f,rfl⟩:=List.mem_map.1 e;exact qaz (h.may y f)
theorem q51 {l:List Qc}(h:Qd l):Qd (l.map pl):=List.Pairwise.map _ (λ_ _ h=>h) h
theorem qws {l:List Qc}{j:Nat}(h:j<l.length):Qj (l.map pl) j=pl (Qj l j):=by
 unfold Qj;simp[List.getD,h]
theorem qgx {k:Kd}{v:List UInt8}:∀{l:List Qc},(∀x∈l,x.k.less k=true)->Zo k v false l=l++[⟨k,v⟩]
 |[],_=>by simp[Zo]
 |x::r,h=>by
  have h1:=h x (List.mem_cons_self ..);have h2:=(Iq h1).1;have e:k.less x.k=false:=by
   cases f:k.less x.k with
   |false=>rfl
   |true=>
    have:=(Kd.Gp _ _).1 f;have:=(Kd.Gp _ _).1 h1;omega
  rw[Zo,h2,e,Bool.or_self,Bool.and_false,Bool.or_self,qgx λy u=>h y (List.mem_cons_of_mem _ u)];simp
theorem qer {l:List Qc}{j:Nat}(h:j<l.length):l=l.take j++Qj l j::l.drop (j+1):=by
 rw[<-q9w h,List.take_append_drop]
theorem qkt {l:List Qc}(f:Qd l){j:Nat}(h:j<l.length):Zo (Qj l j).k (Qj l j).v false (l.take j)=l.take (j+1):=by
 have u:=qer h;have e:=f;rw[u] at e;have h1:=(List.pairwise_append.1 e).2.2;rw[qgx λx y=>h1 x y _ (List.mem_cons_self ..)];have:=q11 h;rw[List.take_add_one,this];rfl
theorem qgy {l:List Qc}(e:Qd l)(j:Nat):Qd (l.take j++l.drop (j+1)):=by
 refine e.sublist ?_;have h1:(l.take j++l.drop (j+1)).Sublist (l.take j++l.drop j):=List.Sublist.append (List.Sublist.refl _) (by rw[<-List.drop_drop];exact List.drop_sublist _ _);rwa [List.take_append_drop] at h1
section
variable {b:Nat}{w w':World}{d p:Nat}{U:Nat->Prop}{D:DM}{P:Pl}{H H0:List Int}{m:Nat}{g:Int}{root:Int}{its:List Qc}
end
theorem q1f {F:Option Addr->List UInt8->Prop}{w:World}{o:Oper}{a:Act}{K:Act->World->Prop}{M:Exit->Act->World->Prop}(J x:Operand)
  (R:o.op=.call { callee:=.builtin .append,args:=#[J,x],argTypes:=#[26,26] })
  (base:Nat) (A:Option Addr) (n c:Nat) (xs:List Qc) (T:a.eval J=.slice A n c) (u:Je F w base A n c xs)
  (B:Option Addr) (m d:Nat) (I:List Qc) (W:a.eval x=.slice B m d) (X:Zg F w B m d I) (G:∀V v,F V v->v≠[]->∀g,q01 V=some g->q01 A≠some g) (hn:n+m<=100000) (e:base<=w.1.size)
  (h:∀f E w',Je F w' base f (n+m) E (xs++I)->Turn (λk=>q01 A=some k) w w'->(q01 f=q01 A\/q01 f=some w.1.size)->K (a.put o.dst (.slice f (n+m) E)) w'):Oper.wp Tryz.prog o a w K M:=by
 obtain⟨f,E,w',y,h2,O,Q⟩:=qbk o.type base A n c xs u B m d I X G hn e;unfold Oper.wp execOp;simp only[R,resolve,invoke,builtin,Sem.run_bind,Sem.run_pure,Result.andThen_ok,List.map_toArray,List.map_cons,List.map_nil,T,W,y];exact h f E w' h2 O Q
