/- A node, and a key, that come in, over this program's types. -/
import Derived.Test.YtmebdjafnefneaaDoorNodeIn
import Derived.Test.YtmebdjafnefneaaDoorLaw4
namespace Go.Proofs.YtmebdjafnefneaaDoor
open Go Go.RowKit Go.Proofs Go.ChangeShapes Go.WideShapes Go.ChangeAt Go.Deep

theorem keyT : ∃ f0 f1 f2, KeyT Tryd.prog 39 f0 f1 f2 := ⟨_, _, _, Tryd.underlying39, by kernel_rfl, by kernel_rfl, Tryd.underlying3, Tryd.underlying3, Tryd.underlying3⟩
set_option maxRecDepth 100000 in
theorem open_nd {H : Type} {enc : TypeId × Value → H} {W : World} {r : Reach} {b0 : Nat} {v : Value} {d : DataW H} {ps : List MemPlace} (hv : Value.okWide Tryd.prog W r b0 25 v) (h : DataW.Trod enc Tryd.prog W 0 (fun _ => true) true 25 v d ps) :
    ∃ (N : Nd) (A : Option Addr) (n c : Nat) (B : Option Addr) (m e : Nat), v = .agg #[.int .i64 N.lvl, .slice A n c, .slice B m e] ∧ Itms W A n c N.items ∧ Kidl W B m e N.kids := by
  obtain ⟨f0, f1, f2, K⟩ := keyT
  exact open_node Tryd.underlying25 (by kernel_rfl) (by kernel_rfl) Tryd.underlying3 Tryd.underlying22 Tryd.underlying52 (by kernel_rfl) rfl rfl (by kernel_rfl) K T22 Tryd.underlying5
    Tryd.underlying23 Tryd.underlying59 (by kernel_rfl) rfl rfl (by kernel_rfl) K Tryd.underlying3 hv h
set_option maxRecDepth 100000 in
theorem open_kd {H : Type} {enc : TypeId × Value → H} {W : World} {r : Reach} {b0 : Nat} {v : Value} {d : DataW H} {ps : List MemPlace} (hv : Value.okWide Tryd.prog W r b0 39 v) (h : DataW.Trod enc Tryd.prog W 0 (fun _ => true) true 39 v d ps) :
    ∃ k : Kd, v = .agg #[.int .i64 k.obj, .int .i64 k.kind, .int .i64 k.off] := by
  obtain ⟨zs, rfl, hl⟩ := open_struct_ints Tryd.underlying39 (by kernel_rfl) (by kernel_rfl) (by kernel_rfl) hv h
  obtain ⟨a, b, c, rfl⟩ := three_of hl
  exact ⟨⟨a, b, c⟩, rfl⟩
end Go.Proofs.YtmebdjafnefneaaDoor
