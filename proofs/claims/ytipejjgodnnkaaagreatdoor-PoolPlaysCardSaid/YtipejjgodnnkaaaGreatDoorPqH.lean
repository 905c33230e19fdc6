/- Laws of the pool: a call of both, of any kind. -/
import Derived.Test.YtipejjgodnnkaaaGreatDoorPqHl
namespace Go.Proofs.YtipejjgodnnkaaaGreatDoor
open Go Go.RowKit Go.Proofs
theorem qop {b i w0 w xb d y p q S0 S S1 S2 T D P}(o:OpV)(Z:DIn b i w0 w xb d y p q S0 S S1 S2 T D P o) :
  Calls Tryz.prog 12 #[.pointer (some ⟨xb,0,none⟩),.agg o.vs.toArray] w fun e w'=>q1r b i xb (md o.K 16) w e w':=by
 by_cases h12:md o.K 16<12
 ·exact qgx o Z h12
 ·have hlt:md o.K 16<16:=qa8 o.K (by omega)
  obtain⟨k,hk⟩:∃k,md o.K 16=k:=⟨_,rfl⟩
  rw[hk] at h12 hlt ⊢
  obtain rfl|rfl|rfl|rfl:k=12∨k=13∨k=14∨k=15:=by omega
  ·exact qtr o Z (by rw[hk];rfl)
  ·exact qtp o Z (by rw[hk];rfl)
  ·exact qtq o Z (by rw[hk];rfl)
  ·exact qtt o Z (by rw[hk];rfl)
end Go.Proofs.YtipejjgodnnkaaaGreatDoor
