/- Laws of the pool: a call of both, of a kind below 12. -/
import Derived.Test.YtipejjgodnnkaaaGreatDoorPm41
namespace Go.Proofs.YtipejjgodnnkaaaGreatDoor
open Go Go.RowKit Go.Proofs
theorem qpm {b i w0 w xb d y p q S0 S S1 S2 T D P}(o:OpV)(Z:DIn b i w0 w xb d y p q S0 S S1 S2 T D P o)(hlt:md o.K 16<12) :
  Calls Tryz.prog 12 #[.pointer (some ⟨xb,0,none⟩),.agg o.vs.toArray] w fun e w'=>q35 b i xb (md o.K 16) w e w':=by
 obtain⟨k,hk⟩:∃k,md o.K 16=k:=⟨_,rfl⟩
 rw[hk] at hlt ⊢
 match k,hlt,hk with
 |0,_,hk=>exact qqd o Z 0 0 (by rw[hk];rfl) (by omega)
 |1,_,hk=>exact qqd o Z 1 1 (by rw[hk];rfl) (by omega)
 |2,_,hk=>exact qqc o Z 2 2 (by rw[hk];rfl) (by omega)
 |3,_,hk=>exact qqc o Z 3 3 (by rw[hk];rfl) (by omega)
 |4,_,hk=>exact qtm o Z (by rw[hk];rfl)
 |5,_,hk=>exact qtn o Z (by rw[hk];rfl)
 |6,_,hk=>exact qqe o Z 6 6 (by rw[hk];rfl) (by omega)
 |7,_,hk=>exact qqe o Z 7 7 (by rw[hk];rfl) (by omega)
 |8,_,hk=>exact qtk o Z (by rw[hk];rfl)
 |9,_,hk=>exact qtl o Z (by rw[hk];rfl)
 |10,_,hk=>exact qs8 o Z (by rw[hk];rfl)
 |11,_,hk=>exact qs9 o Z (by rw[hk];rfl)
 |n+12,h,_=>exact absurd h (by omega)
end Go.Proofs.YtipejjgodnnkaaaGreatDoor
