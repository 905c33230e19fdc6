/- Short names. -/
import Derived.Lib.Hide
namespace Go.Proofs.YtloolbmdiimanaaGreatDoor
open Go Go.RowKit Go.Proofs
abbrev OA := Option Addr
abbrev LU := List UInt8
abbrev WD := World
abbrev LV := List Value
abbrev NP := Nat → Prop
abbrev LI := List Int
theorem HI {p : Prop} (h : p) : RowKit.Hid p := h
theorem OI {α : Type _} {a b : α} (h : some a = some b) : a = b := Option.some.inj h
abbrev AA.{u} := @if_pos.{u}
abbrev AB.{u} := @if_neg.{u}
abbrev AC.{u} := @List.getElem?_eq_getElem.{u}
abbrev AD.{u} := @List.length_append.{u}
abbrev AE := @Nat.le_refl
abbrev AF.{u, v} := @List.length_map.{u, v}
abbrev AG.{u} := @List.getD_eq_getElem?_getD.{u}
abbrev AH := @decide_eq_false
abbrev AI := @Below.refl
abbrev AJ := @Int.toNat_natCast
abbrev AK := @of_decide_eq_true
abbrev AL := @decide_eq_true
abbrev AM.{u} := @List.append_assoc.{u}
abbrev AN.{u} := @List.take_of_length_le.{u}
abbrev AO.{u} := @List.mem_cons_of_mem.{u}
abbrev AP.{u} := @List.mem_cons_self.{u}
abbrev AQ.{u} := @List.mem_singleton.{u}
abbrev AR.{u} := @List.length_take.{u}
abbrev AS.{u} := @List.length_drop.{u}
abbrev AT := @Nat.zero_add
abbrev AU.{u} := @List.mem_append_right.{u}
abbrev AV.{u} := @List.take_append_drop.{u}
abbrev AW := @Nat.zero_le
abbrev AX.{u} := @List.length_cons.{u}
abbrev AY := @World.cell?_of_block
abbrev AZ := @Nat.le_trans
abbrev A_.{u} := @List.count_append.{u}
abbrev BA.{u, v} := @List.getElem?_map.{u, v}
abbrev BC.{u, v} := @List.flatMap_cons.{u, v}
abbrev BE := @heap_alloc_new
abbrev BF.{u} := @List.eq_nil_of_length_eq_zero.{u}
abbrev BG.{u} := @List.nil_append.{u}
abbrev BH := @World.size_alloc
abbrev BJ.{u, v} := @List.map_cons.{u, v}
abbrev BK.{u} := @List.length_replicate.{u}
abbrev BM.{u} := @List.append_nil.{u}
abbrev BN := @Bool.and_eq_true
end Go.Proofs.YtloolbmdiimanaaGreatDoor
