/- Rows of items, as plain data: put, row, scan. -/
import Derived.Test.YtnnbaihfboacoaaGreatDoorEt14
namespace Go.Proofs.YtnnbaihfboacoaaGreatDoor
open Go Go.RowKit Go.Proofs
def U7:List Qc->List Qc->List Qc
 |[],out=>out
 |x::r,out=>U7 r (if x.k.may=true then Zo x.k (x.v.take 28) false out else out)
theorem qhc:∀(l out:List Qc) (m:Nat),Ky out m->Ky (U7 l out) (m+l.length)
 |[],out,m,h=>h
 |x::r,out,m,h=>by
  unfold U7;have:Ky (if x.k.may=true then Zo x.k (x.v.take 28) false out else out) (m+1):=by
   split
   ·rename_i hm;refine⟨q25 h.Qd,λy b=>?_,Nat.le_trans (q5f h.Qd) (Nat.succ_le_succ h.len)⟩;rcases q41 h.Qd y b with rfl|b
    ·exact⟨hm,by rw[List.length_take];omega⟩
    ·exact h.may y b
   ·exact⟨h.Qd,h.may,Nat.le_succ_of_le h.len⟩
  have h2:=qhc r _ (m+1) this;rw[List.length_cons,show m+(r.length+1)=m+1+r.length by omega];exact h2
theorem qlb (l:List Qc)(m:Nat):Ky (U7 (l.take m) []) m:=by
 have h:=qhc (l.take m) [] 0 ⟨List.Pairwise.nil,λx b=>(by cases b),Nat.zero_le _⟩;exact⟨h.Qd,h.may,by have h1:=h.len;rw[List.length_take] at h1;omega⟩
