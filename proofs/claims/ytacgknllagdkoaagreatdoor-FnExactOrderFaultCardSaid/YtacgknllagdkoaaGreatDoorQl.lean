/-
  Texts of this seat in one module: BrdX, TabS, RowC, DirTo, PutI.
-/
import Derived.Test.YtacgknllagdkoaaGreatDoorQb
import Derived.Test.YtacgknllagdkoaaGreatDoorQe
import Derived.Test.YtacgknllagdkoaaGreatDoorQf
import Derived.Test.YtacgknllagdkoaaGreatDoorQj
import Derived.Test.YtacgknllagdkoaaGreatDoorQk
/-
  The laws' marking of copied kinds, rules, maps and boards: only the copy's own blocks are written, and the number handed back is not less.
-/
namespace Go.Proofs.YtacgknllagdkoaaGreatDoor
open Go.RowKit
end Go.Proofs.YtacgknllagdkoaaGreatDoor
/-
  What the rows' lists say of the ranges and of the table of directions, cell by cell; a world for the witness in which they lie.
-/
namespace Go.Proofs.YtacgknllagdkoaaGreatDoor
open Go.ChangeShapes Go.WideShapes Go.ChangeAt Go.RowKit Go.Joins
theorem terrainsG:Tryz.prog.globalNamed "loop.example/g00886/impl.terrainsSpan"=some 10:=by kernel_rfl
theorem terrainsTy:(Tryz.prog.globals[10]?).map (·.type)=some 105:=by kernel_rfl
theorem costG:Tryz.prog.globalNamed "loop.example/g00886/impl.costSpan"=some 17:=by kernel_rfl
theorem costTy:(Tryz.prog.globals[17]?).map (·.type)=some 105:=by kernel_rfl
theorem shiftG:Tryz.prog.globalNamed "loop.example/g00886/impl.shiftSpan"=some 18:=by kernel_rfl
theorem shiftTy:(Tryz.prog.globals[18]?).map (·.type)=some 105:=by kernel_rfl
theorem heightG:Tryz.prog.globalNamed "loop.example/g00886/impl.heightSpan"=some 19:=by kernel_rfl
theorem heightTy:(Tryz.prog.globals[19]?).map (·.type)=some 105:=by kernel_rfl
theorem kindsG:Tryz.prog.globalNamed "loop.example/g00886/impl.kindsSpan"=some 11:=by kernel_rfl
theorem kindsTy:(Tryz.prog.globals[11]?).map (·.type)=some 105:=by kernel_rfl
theorem strengthG:Tryz.prog.globalNamed "loop.example/g00886/impl.strengthSpan"=some 20:=by kernel_rfl
theorem strengthTy:(Tryz.prog.globals[20]?).map (·.type)=some 105:=by kernel_rfl
theorem movesG:Tryz.prog.globalNamed "loop.example/g00886/impl.movesSpan"=some 21:=by kernel_rfl
theorem movesTy:(Tryz.prog.globals[21]?).map (·.type)=some 105:=by kernel_rfl
theorem stepsG:Tryz.prog.globalNamed "loop.example/g00886/impl.stepsSpan"=some 22:=by kernel_rfl
theorem stepsTy:(Tryz.prog.globals[22]?).map (·.type)=some 105:=by kernel_rfl
theorem viewG:Tryz.prog.globalNamed "loop.example/g00886/impl.viewSpan"=some 23:=by kernel_rfl
theorem viewTy:(Tryz.prog.globals[23]?).map (·.type)=some 105:=by kernel_rfl
theorem stackG:Tryz.prog.globalNamed "loop.example/g00886/impl.stackSpan"=some 12:=by kernel_rfl
theorem stackTy:(Tryz.prog.globals[12]?).map (·.type)=some 105:=by kernel_rfl
theorem riverG:Tryz.prog.globalNamed "loop.example/g00886/impl.riverSpan"=some 13:=by kernel_rfl
theorem riverTy:(Tryz.prog.globals[13]?).map (·.type)=some 105:=by kernel_rfl
theorem roadG:Tryz.prog.globalNamed "loop.example/g00886/impl.roadSpan"=some 14:=by kernel_rfl
theorem roadTy:(Tryz.prog.globals[14]?).map (·.type)=some 105:=by kernel_rfl
theorem supplyG:Tryz.prog.globalNamed "loop.example/g00886/impl.supplySpan"=some 15:=by kernel_rfl
theorem supplyTy:(Tryz.prog.globals[15]?).map (·.type)=some 105:=by kernel_rfl
theorem turnsG:Tryz.prog.globalNamed "loop.example/g00886/impl.turnsSpan"=some 16:=by kernel_rfl
theorem turnsTy:(Tryz.prog.globals[16]?).map (·.type)=some 105:=by kernel_rfl
noncomputable def laidWorldS (os:Os):World :=
  setVar (setVar (setVar (setVar (setVar (setVar (setVar (setVar (setVar (setVar (setVar (setVar (setVar (setVar (laidWorld os) 10 #[.int .i64 1,.int .i64 6]) 17 #[.int .i64 0,.int .i64 9]) 18 #[.int .i64 (-3),.int .i64 3]) 19 #[.int .i64 0,.int .i64 3]) 11 #[.int .i64 1,.int .i64 4]) 20 #[.int .i64 1,.int .i64 9]) 21 #[.int .i64 0,.int .i64 9]) 22 #[.int .i64 1,.int .i64 4]) 23 #[.int .i64 0,.int .i64 4]) 12 #[.int .i64 1,.int .i64 4]) 13 #[.int .i64 0,.int .i64 9]) 14 #[.int .i64 1,.int .i64 9]) 15 #[.int .i64 0,.int .i64 20]) 16 #[.int .i64 1,.int .i64 30]
end Go.Proofs.YtacgknllagdkoaaGreatDoor
/-
  Small facts on rows of cells that a call owns, and on lists to which one element is added.
-/
namespace Go.Proofs.YtacgknllagdkoaaGreatDoor
open Go.RowKit
theorem ownsRow_base {w:World} {base b:Nat} {e:TypeId} {size:Nat} {v:Value} {n:Nat} {xs:List Value} (h:w.ownsRow base e size v n xs) (hb:b ≤ base):w.ownsRow b e size v n xs:=by
  refine ⟨h.1,?_⟩
  rcases h.2 with h | ⟨g,cap,cur,h1,h2,h3⟩
  · exact .inl h
  · exact .inr ⟨g,cap,cur,h1,by omega,h3⟩
end Go.Proofs.YtacgknllagdkoaaGreatDoor
/-
  The direction from a hex to another: the program's function and the reference's return what a plain function on integers says, and change nothing that was there.
-/
namespace Go.Proofs.YtacgknllagdkoaaGreatDoor
open Go.RowKit
end Go.Proofs.YtacgknllagdkoaaGreatDoor
/-
  A store into a list of integers that the call owns; a new list of zeros.
-/
namespace Go.Proofs.YtacgknllagdkoaaGreatDoor
open Go.RowKit
end Go.Proofs.YtacgknllagdkoaaGreatDoor
