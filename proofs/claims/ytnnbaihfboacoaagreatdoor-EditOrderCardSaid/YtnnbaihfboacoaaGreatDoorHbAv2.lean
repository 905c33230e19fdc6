/- append of a row of items onto the call's own row, with a word of where each value lies. -/
import Derived.Test.YtnnbaihfboacoaaGreatDoorHbAv1
namespace Go.Proofs.YtnnbaihfboacoaaGreatDoor
open Go Go.RowKit Go.Proofs
theorem q8x {F:Option Addr->List UInt8->Prop}{w:World}{u:Array Oper}{b:List Oper}{o:Oper}{a:Act}{Q:Exit->Act->World->Prop}(H:o.guard=none)(J x:Operand)
  (R:o.op=.call { callee:=.builtin .append,args:=#[J,x],argTypes:=#[26,26] })
  (base:Nat) (A:Option Addr) (n c:Nat) (xs:List Qc) (M:a.eval J=.slice A n c) (D:Je F w base A n c xs)
  (B:Option Addr) (m d:Nat) (I:List Qc) (P:a.eval x=.slice B m d) (O:Zg F w B m d I) (G:∀V v,F V v->v≠[]->∀g,q01 V=some g->q01 A≠some g) (hn:n+m<=100000) (e:base<=w.1.size)
  (h:∀f E y,Je F y base f (n+m) E (xs++I)->Turn (λk=>q01 A=some k) w y->(q01 f=q01 A\/q01 f=some w.1.size)->wpList Tryz.prog u Q b (a.put o.dst (.slice f (n+m) E)) y):wpList Tryz.prog u Q (o::b) a w:=
 wpList_plain H λK T=>by
  obtain⟨f,E,y,p,h2,W,U⟩:=qbk o.type base A n c xs D B m d I O G hn e;unfold Oper.wp execOp;simp only[R,resolve,invoke,builtin,Sem.run_bind,Sem.run_pure,Result.andThen_ok,List.map_toArray,List.map_cons,List.map_nil,M,P,p];exact T _ _ (h f E y h2 W U)
