/- Laws of the pool, plain facts: what is read of what was put, and committed. -/
import Derived.Test.YtnnbaihfboacoaaGreatDoorEt23
namespace Go.Proofs.YtnnbaihfboacoaaGreatDoor
open Go Go.RowKit Go.Proofs
theorem qxc (P:Pl):P.new.length<=P.C.n:=by
 unfold Pl.new;have:=List.length_filterMap_le P.Ib (List.range P.C.n);rwa [List.length_range] at this
theorem qux {P:Pl}(h:P.ok):P.steps.length<=2100:=by
 have h1:=Pl.Eh P;have h2:=qxc P;have b:=h.c.1;have d:Qe P.C.n<=18:=by unfold Qe;omega
 omega
theorem qrw {D:DM}{P:Pl}(h:P.ok){m:Sp}{f:Ct}(u:Sound D P m f):D.Lu P=0/\D.Md P=P.done/\Sound (D.Qk P.steps) P.done P.sup P.C/\
  Eb (D.Qk P.steps).newest (D.Qk P.steps).off (D.Qk P.steps).n=0/\Pl.Va (D.Qk P.steps).newest (D.Qk P.steps).n=P.done/\Gq (D.Qk P.steps).newest=P.sup:=by
 obtain⟨p,b,_⟩:=qfd h u;have d:D.Xp P.steps=true:=decide_eq_true p;obtain⟨y,e,A⟩:=q8g b;refine⟨(qe2 d).1,(qe2 d).2,b,by rw[b.free.on];exact y,?_,e⟩;unfold Pl.Va;rw[e];have:Me (D.Qk P.steps).newest (D.Qk P.steps).n P.sup.gen=P.C.commit:=A;rw[this];rfl
