/- The reference's Write: a node's block. -/
import Derived.Test.YtipejjgodnnkaaaGreatDoorPy5
import Derived.Test.YtipejjgodnnkaaaGreatDoorPy12
namespace Go.Proofs.YtipejjgodnnkaaaGreatDoor
open Go Go.RowKit Go.Proofs

section
variable {P : Program} {t e : TypeId} (w : World)
end
def itBytes (x : Itm) : List UInt8 := x.k.bytes ++ (dig (x.v.length : Int) 1 ++ x.v)
def kidBytes (x : Kidd) : List UInt8 := x.k.bytes ++ dig x.a 2
def Nd.body (N : Nd) : List UInt8 := N.items.flatMap itBytes ++ N.kids.flatMap kidBytes
/-- The header of a node's block; P6.1's Write. -/
def Nd.head (N : Nd) (addr gen : Int) : Hd := ⟨if 0 < N.lvl then 4 else 3, addr, (N.items.length : Int) + (N.kids.length : Int), N.lvl, gen⟩
def writeB (N : Nd) (addr gen : Int) : List UInt8 := if N.may = true then sealB (N.head addr gen) N.body else []
def writeE (N : Nd) (addr gen : Int) : Int := if N.may = true then sealE (N.head addr gen) N.body else 1
end Go.Proofs.YtipejjgodnnkaaaGreatDoor
