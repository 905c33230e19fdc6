/- Short names. -/
import Derived.Lib.Hide
namespace Go.Proofs.YtnjacafcocnicaaGreatDoor
open Go Go.RowKit Go.Proofs
abbrev OA := Option Addr
abbrev LU := List UInt8
abbrev WD := World
abbrev LV := List Value
abbrev NP := Nat → Prop
abbrev LI := List Int
theorem HI {p : Prop} (h : p) : RowKit.Hid p := h
abbrev BX (w w' : World) : Prop := Below w.heap.size w w'
theorem OI {α : Type _} {a b : α} (h : some a = some b) : a = b := Option.some.inj h
abbrev IP.{u} := @if_pos.{u}
abbrev IN.{u} := @if_neg.{u}
abbrev EG.{u} := @List.getElem?_eq_getElem.{u}
abbrev LA.{u} := @List.length_append.{u}
abbrev LM.{u, v} := @List.length_map.{u, v}
abbrev GD.{u} := @List.getD_eq_getElem?_getD.{u}
abbrev DF := @decide_eq_false
abbrev DT := @decide_eq_true
end Go.Proofs.YtnjacafcocnicaaGreatDoor
