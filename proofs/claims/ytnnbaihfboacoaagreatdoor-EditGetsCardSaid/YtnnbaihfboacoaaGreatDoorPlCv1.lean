/- A commit's steps, and what a crash within them leaves: plain facts. -/
import Derived.Test.YtnnbaihfboacoaaGreatDoorEt10
namespace Go.Proofs.YtnnbaihfboacoaaGreatDoor
open Go Go.RowKit Go.Proofs
theorem qbs {M:Mem}{s:Nat}(h:M.Zp s=[]):M.newest s=M.Jp s:=by unfold Mem.newest;rw[h];rfl
theorem qxb (A:List Stp)(slot:Nat)(b:List UInt8):(Uo A slot b).length=A.length+3:=by unfold Uo;simp
theorem quw (A:List Stp)(slot:Nat)(b:List UInt8)(M:Mem)(s:Nat):(M.Ox (Uo A slot b)).Zp s=[]/\(M.Ox (Uo A slot b)).Jp s=if s=slot then b else Xc s A (M.newest s):=by
 have e:Uo A slot b=(A++[.fl,.w slot b])++[.fl]:=by unfold Uo;simp
 rw[e,q7i];refine⟨rfl,?_⟩;show ((M.Ox (A++[.fl,.w slot b])).newest s)=_;rw[q5a,Oc];show (if slot=s then b else Xc s A (M.newest s))=_;by_cases h:s=slot
 ·rw[if_pos h.symm,if_pos h]
 ·rw[if_neg (λe=>h e.symm),if_neg h]
theorem qdc {l:List (Nat × List UInt8)}{s:Nat}(h:∀b∈l,b.1≠s):spares s (Io l):=λt x d=>by
 unfold Io at d;rw[List.mem_map] at d;obtain⟨b,f,e⟩:=d;injection e with m p;exact m▸h b f
theorem qhd (s:Nat)(x:List UInt8):∀(l:List (Nat × List UInt8)) (d:List UInt8),(s,x)∈l->(∀y,(s,y)∈l->y=x)->Xc s (Io l) d=x
 |[],_,h,_=>by cases h
 |b::l,d,h,hu=>by
  show Xc s (Io l) (if b.1=s then b.2 else d)=x;by_cases hm:(s,x)∈l
  ·exact qhd s x l _ hm λy p=>hu y (List.mem_cons_of_mem _ p)
  ·have u:b=(s,x):=by
    rcases List.mem_cons.1 h with e|e
    ·exact e.symm
    ·exact absurd e hm
   have f:spares s (Io l):=qdc λc m e=>by
    obtain⟨c1,c2⟩:=c;dsimp only at e;subst e;have:=hu c2 (List.mem_cons_of_mem _ m);subst this;exact hm m
   rw[q15 f,u,if_pos rfl]
