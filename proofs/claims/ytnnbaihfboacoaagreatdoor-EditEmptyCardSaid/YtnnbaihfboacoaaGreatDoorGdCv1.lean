/- What Put and Delete leave as it is: the superblock, and what was committed. -/
import Derived.Test.YtnnbaihfboacoaaGreatDoorEt34
namespace Go.Proofs.YtnnbaihfboacoaaGreatDoor
open Go Go.RowKit Go.Proofs
theorem qrs {C b:Ct}(hn:b.n=C.n)(hd:b.done=C.done)(h:C.used=0)(e:b.used=0):b.free=C.free:=by
 have f:b.first=C.first:=by unfold Ct.first;rw[hn]
 have z:∀{C:Ct},C.used=0->∀a,a<C.n->nm C.now a=0:=λ{C} h a d=>by
  unfold Ct.used at h;have:=List.countP_eq_zero.1 h a (List.mem_range.2 d);simpa using this
 unfold Ct.free Ct.Jw;rw[hn];refine List.countP_congr λa d=>?_
 have d:=List.mem_range.1 d;unfold Ct.may Ct.U3;rw[z h a d,z e a (by omega),hd,f]
