/- The laws of edit: Put and Delete where there is room; a row put behind another one. -/
import Derived.Test.YtnnbaihfboacoaaGreatDoorEt34
namespace Go.Proofs.YtnnbaihfboacoaaGreatDoor
open Go Go.RowKit Go.Proofs
section
variable {b:Nat}{w w':World}{d p:Nat}{U:Nat->Prop}{D:DM}{P:Pl}{H H0:List Int}{m:Nat}{g:Int}{root:Int}{its:List Qc}
theorem Ed.Ti (E:Ed b w d p U D P (Jr root++H0) m g)(hb:1<b)(hT:Zb (P.store D) root its)(hr:Qd its)(hf:∀x∈its,Ze x)(k:Kd)(hfew:its.length<1000)(hH0:H0.length<=10000)(hk:∃x∈its,x.k.same k=true)(hfree:17<=P.C.free)(its':List Qc)(hi:Jv k its=its') :
  Calls Tryz.prog 31 #[.pointer (some ⟨p,0,none⟩),.int .i64 root,.agg #[.int .i64 k.obj,.int .i64 k.kind,.int .i64 k.off]] w λe w'=>∃r f,e=.returned (.tuple #[.int .i64 r,.int .i64 0])/\Bd b w w' d p U D P f r H0 its' m g:=by
 subst hi;refine (E.del hb hT hr hf k hfew hH0 hk).mono ?_;rintro e w' (⟨r,f,rfl,N⟩|⟨_,h,_⟩)
 ·exact⟨r,f,rfl,N⟩
 ·omega
end
