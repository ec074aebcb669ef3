/-
  The laws' functions on boards: sizes, copies in memory of their own, the comparison of two that hold the same; an argument of type Board. Nothing that was there is changed.
-/
import Derived.Test.YtacgknllagdkoaaBrdI
import Derived.Test.YtacgknllagdkoaaRulO
import Derived.Test.YtacgknllagdkoaaToMap
namespace Go.Proofs.Ytacgknllagdkoaa
open Go.ChangeShapes Go.WideShapes Go.ChangeAt Go.RowKit Go.Joins Go.Deep

def mapSm (lt lr ld : List Int) : Prop := lt.length ≤ 1048576 ∧ lr.length ≤ 1048576 ∧ ld.length ≤ 1048576
theorem Reads.lists' {w : World} {t r d : Value} {lt lr ld : List Int} (h : Reads w t r d lt lr ld) (s : mapSm lt lr ld) : Lists w t r d lt lr ld :=
  ⟨h.rt, h.rr, h.rd, s.1, s.2.1, s.2.2, h.it, h.ir, h.id⟩
theorem Reads.keep {w w' : World} {t r d : Value} {lt lr ld : List Int} (h : Reads w t r d lt lr ld) (k : Kp w w') : Reads w' t r d lt lr ld :=
  ⟨h.rt.keep k, h.rr.keep k, h.rd.keep k, h.bt, h.br, h.bd, h.it, h.ir, h.id⟩

/-- What an argument's board is: rules and three lists, within Go's own bounds. -/
structure BrdIn (w : World) (At Ak : Option Addr) (nt nk : Nat) (l : List Ter) (m : List Knd) (x r y : Value) (lt lr ld : List Int) : Prop where
  R : RulIn w At Ak nt nk l m
  L : Reads w x r y lt lr ld
theorem BrdIn.keep {w w' : World} {At Ak : Option Addr} {nt nk : Nat} {l : List Ter} {m : List Knd} {x r y : Value} {lt lr ld : List Int} (h : BrdIn w At Ak nt nk l m x r y lt lr ld) (k : Kp w w') : BrdIn w' At Ak nt nk l m x r y lt lr ld :=
  ⟨h.R.keep k, h.L.keep k⟩
def brdSm (nt nk : Nat) (l : List Ter) (m : List Knd) (lt lr ld : List Int) : Prop := rulSm nt nk l m ∧ mapSm lt lr ld
theorem BrdIn.at {w : World} {At Ak : Option Addr} {nt nk : Nat} {l : List Ter} {m : List Knd} {x r y : Value} {lt lr ld : List Int} (h : BrdIn w At Ak nt nk l m x r y lt lr ld) (s : brdSm nt nk l m lt lr ld) : BrdAt w At Ak nt nk l m x r y lt lr ld :=
  ⟨h.R.at s.1, h.L.lists' s.2⟩

theorem Own3.far {w : World} {base : Nat} {t r d : Value} {lt lr ld : List Int} (h : Own3 w base t r d lt lr ld) {b j : Nat} (hb : b < base) (u : Value) : Own3 (w.setCell ⟨b, j, none⟩ u) base t r d lt lr ld :=
  ⟨h.ot.far (h.ot.not hb) u, h.or.far (h.or.not hb) u, h.od.far (h.od.not hb) u, h.tr, h.td, h.rd⟩
theorem Own3.base {w : World} {base b : Nat} {t r d : Value} {lt lr ld : List Int} (h : Own3 w base t r d lt lr ld) (hb : b ≤ base) : Own3 w b t r d lt lr ld :=
  ⟨h.ot.base hb, h.or.base hb, h.od.base hb, h.tr, h.td, h.rd⟩
end Go.Proofs.Ytacgknllagdkoaa
