/-
  Rules as plain data: terrains, kinds, names, and when they are valid, in the program's order and in the reference's. No program is looked into.
-/
import Derived.Lib.SlicesS
import Derived.Test.YtacgknllagdkoaaHex
namespace Go.Proofs.Ytacgknllagdkoaa
open Go.RowKit

structure Ter where
  name : ByteArray
  cost : List Int
  shift : Int
  height : Int
  blocks : Bool
structure Knd where
  name : ByteArray
  str : Int
  mov : Int
  stp : Int
  zone : Bool
  view : Int
structure Rul where
  ters : List Ter
  knds : List Knd
  stack : Int
  river : Int
  road : Int
  supply : Int
  turns : Int

/-- A terrain at its place, as the reference asks. -/
theorem lt_of_at {α : Type} {l : List α} {i : Nat} {t : α} (h : l[i]? = some t) : i < l.length := (List.getElem?_eq_some_iff.1 h).1
end Go.Proofs.Ytacgknllagdkoaa
