/- Keys: contracts with the numbers written out; boxes; what is laid and taken, as texts -/
import Derived.Test.YtnnbaihfboacoaaGreatDoorEt4
namespace Go.Proofs.YtnnbaihfboacoaaGreatDoor
open Go Go.RowKit Go.Proofs
theorem Qch {w:World}{A:Option Addr}{n c:Nat}{l:List UInt8}(h:Sl w A n c l):(convert 31 9 (.slice A n c)).run Tryz.prog w=.ok (.string ⟨l.toArray⟩) w:=
 q64 _ _ _ Gy Tryz.underlying5 Tryz.underlying9 h
theorem Qba (w:World)(a b:Kd):KB ((w.alloc (.cells #[.int .i64 a.obj,.int .i64 a.kind,.int .i64 a.off] 30)).alloc (.cells #[.int .i64 b.obj,.int .i64 b.kind,.int .i64 b.off] 30)) w.1.size a/\KB ((w.alloc (.cells #[.int .i64 a.obj,.int .i64 a.kind,.int .i64 a.off] 30)).alloc (.cells #[.int .i64 b.obj,.int .i64 b.kind,.int .i64 b.off] 30)) (w.1.size+1) b/\Below w.1.size w ((w.alloc (.cells #[.int .i64 a.obj,.int .i64 a.kind,.int .i64 a.off] 30)).alloc (.cells #[.int .i64 b.obj,.int .i64 b.kind,.int .i64 b.off] 30)):=
 ⟨(KB.new w a.obj a.kind a.off _).below (Qm) (by simp),KB.new2 w _ b.obj b.kind b.off _,(Qm).alloc (by simp) _⟩
